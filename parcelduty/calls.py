"""The calls that change something: each takes the office and the call's arguments, and gives back what it answers.

The refusals of a call stand in the order in which they are told, all ahead of the first change.
"""

from parcelduty.bounds import MOST_AMOUNT, MOST_DAY, MOST_DAYS_AT_ONCE, MOST_DECLARATION_BYTES, MOST_GOODS
from parcelduty.bounds import MOST_LICENCE, MOST_MONEY, MOST_PARCELS, MOST_RATE, MOST_TARIFF_BYTES
from parcelduty.bounds import MOST_THRESHOLD, MOST_VALUE
from parcelduty.declaration import read_declaration
from parcelduty.duties import group_of, look_at
from parcelduty.parcels import LICENCE_MISSING, RELEASED, SENT_BACK, TO_BE_PAID, Good, Parcel, Settling
from parcelduty.replies import ALREADY_SO, NOT_AS_TOLD, NOT_NOW, NOT_THERE, NO_CODE, NO_RATE, OUT_OF_RANGE, TOO_MANY
from parcelduty.replies import WRONG_LINE, group_refusal, parcel_refusal, row
from parcelduty.tariff import read_tariff, rule_for
from parcelduty.texts import is_full_code

OWES_MORE = 1
OWES_LESS = 2


def parcel_answer(number, parcel):
    """What is answered of a parcel that was looked at."""
    return [number] + row([parcel.state, parcel.charged])


def begin_anew(office, threshold):
    """All is new."""
    if not 0 <= threshold <= MOST_THRESHOLD:
        return [OUT_OF_RANGE]
    office.renew(threshold)
    return [0]


def set_tariff(office, text):
    """The tariff from now on."""
    if len(text) > MOST_TARIFF_BYTES:
        return [OUT_OF_RANGE]
    found = read_tariff(text)
    if found.wrong_line > 0:
        return [WRONG_LINE - found.wrong_line]
    office.rules = found.rules
    return [len(office.rules)]


def set_rate(office, number, rate):
    """A money's rate from now on."""
    if not 1 <= number <= MOST_MONEY or not 1 <= rate <= MOST_RATE:
        return [OUT_OF_RANGE]
    office.rates[number] = rate
    return [0]


def pass_days(office, more):
    """Some days go by."""
    if not 0 <= more <= MOST_DAYS_AT_ONCE:
        return [OUT_OF_RANGE]
    if office.day + more > MOST_DAY:
        return [TOO_MANY]
    office.day = office.day + more
    return [office.day]


def add_parcel(office, found, rules):
    """Add the parcel of a declaration whose items have these rules."""
    parcel = Parcel(found.sender, found.receiver, office.day, office.rates[found.money])
    for item, rule in zip(found.wares, rules):
        parcel.goods.append(Good(item.code, item.value, item.origin, rule))
    parcel.licences = found.licences
    office.parcels.append(parcel)
    return parcel


def declare(office, text):
    """A new parcel comes in."""
    if len(text) > MOST_DECLARATION_BYTES:
        return [OUT_OF_RANGE]
    found = read_declaration(text)
    if found.wrong_line > 0:
        return [WRONG_LINE - found.wrong_line]
    if found.money not in office.rates:
        return [NO_RATE]
    rules = [rule_for(office.rules, item.code) for item in found.wares]
    if any([rule is None for rule in rules]):
        return [NOT_THERE]
    if len(office.parcels) == MOST_PARCELS:
        return [TOO_MANY]
    parcel = add_parcel(office, found, rules)
    look_at(office, parcel)
    return parcel_answer(len(office.parcels), parcel)


def add_licence(office, number, added):
    """A licence is added to a parcel that lacks one."""
    if not 1 <= added <= MOST_LICENCE:
        return [OUT_OF_RANGE]
    refusal = parcel_refusal(office, number)
    if refusal < 0:
        return [refusal]
    parcel = office.parcels[number - 1]
    if parcel.state != LICENCE_MISSING:
        return [NOT_NOW]
    if added in parcel.licences:
        return [ALREADY_SO]
    parcel.licences.append(added)
    look_at(office, parcel)
    return parcel_answer(number, parcel)


def pay(office, number, amount):
    """What a parcel is charged is paid."""
    if not 1 <= amount <= MOST_AMOUNT:
        return [OUT_OF_RANGE]
    refusal = parcel_refusal(office, number)
    if refusal < 0:
        return [refusal]
    parcel = office.parcels[number - 1]
    if parcel.state != TO_BE_PAID:
        return [NOT_NOW]
    if parcel.charged != amount:
        return [NOT_AS_TOLD]
    parcel.state = RELEASED
    return [amount]


def inspect(office, number, place, value, code):
    """A good is put right, by the tariff as it is now."""
    if not 1 <= place <= MOST_GOODS or not 1 <= value <= MOST_VALUE:
        return [OUT_OF_RANGE]
    if not is_full_code(code):
        return [NO_CODE]
    refusal = parcel_refusal(office, number)
    if refusal < 0:
        return [refusal]
    parcel = office.parcels[number - 1]
    if place > len(parcel.goods):
        return [NOT_THERE]
    if parcel.state in (RELEASED, SENT_BACK):
        return [NOT_NOW]
    rule = rule_for(office.rules, code)
    if rule is None:
        return [NOT_THERE]
    origin = parcel.goods[place - 1].origin
    parcel.goods[place - 1] = Good(tuple(code), value, origin, rule)
    look_at(office, parcel)
    return parcel_answer(number, parcel)


def send_back(office, number):
    """A parcel is sent back."""
    refusal = parcel_refusal(office, number)
    if refusal < 0:
        return [refusal]
    parcel = office.parcels[number - 1]
    if parcel.state in (RELEASED, SENT_BACK):
        return [NOT_NOW]
    parcel.state = SENT_BACK
    parcel.charged = 0
    return [0]


def settle(office, sender, receiver, week):
    """What a group was charged is settled to what it owes."""
    refusal = group_refusal(sender, receiver, week)
    if refusal < 0:
        return [refusal]
    amount = group_of(office, sender, receiver, week).due()
    if amount == 0:
        return [NOT_NOW]
    office.settlings.append(Settling(sender, receiver, week, amount))
    return [OWES_MORE if amount > 0 else OWES_LESS] + row([amount])
