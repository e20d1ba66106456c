"""The calls that only tell: each takes the office and the call's arguments, and gives back the numbers it answers."""

from parcelduty.bounds import MOST_DECLARATION_BYTES, MOST_GOODS, MOST_ORIGIN
from parcelduty.declaration import declaration_written, read_declaration
from parcelduty.duties import dues_together, duty_parts, group_of, tax_parts, worth_parts, worths_together
from parcelduty.replies import NOT_THERE, NO_CODE, OUT_OF_RANGE, WRONG_LINE
from parcelduty.replies import group_refusal, parcel_refusal, parts_row, row
from parcelduty.tariff import duty_from, rule_for, tariff_written
from parcelduty.texts import is_code


def one_if(holds):
    """1 if something holds, else 0."""
    return 1 if holds else 0


def tell_parcel(office, number):
    """What there is of a parcel."""
    refusal = parcel_refusal(office, number)
    if refusal < 0:
        return [refusal]
    parcel = office.parcels[number - 1]
    told = [parcel.state]
    told.extend(row([parcel.sender, parcel.receiver, parcel.day, parcel.rate, len(parcel.goods), parcel.charged]))
    told.extend(row(parcel.licences))
    told.extend(parts_row(worths_together(parcel)))
    told.extend(parts_row(dues_together(parcel)))
    told.extend(row([number]))
    return told


def good_answer(good, rate):
    """What is answered of a good in a parcel with this rate."""
    told = [good.value]
    told.extend(row(list(good.code)))
    told.extend(row([good.origin, good.duty, good.tax, one_if(good.barred), good.licence]))
    told.extend(parts_row(worth_parts(good, rate)))
    told.extend(parts_row(duty_parts(good, rate)))
    told.extend(parts_row(tax_parts(good, rate)))
    return told


def tell_good(office, number, place):
    """What there is of a parcel's good."""
    if not 1 <= place <= MOST_GOODS:
        return [OUT_OF_RANGE]
    refusal = parcel_refusal(office, number)
    if refusal < 0:
        return [refusal]
    parcel = office.parcels[number - 1]
    if place > len(parcel.goods):
        return [NOT_THERE]
    return good_answer(parcel.goods[place - 1], parcel.rate)


def tell_group(office, sender, receiver, week):
    """What a sender and a receiver have gathered in a week, what they owe for it and were charged."""
    refusal = group_refusal(sender, receiver, week)
    if refusal < 0:
        return [refusal]
    group = group_of(office, sender, receiver, week)
    return [group.size] + parts_row(group.gathered) + row([group.owed, group.charged])


def tell_rule(office, origin, code):
    """What the tariff says of a code from an origin."""
    if not 1 <= origin <= MOST_ORIGIN:
        return [OUT_OF_RANGE]
    if not is_code(code):
        return [NO_CODE]
    rule = rule_for(office.rules, code)
    if rule is None:
        return [NOT_THERE]
    return [duty_from(rule, origin)] + row(list(rule.code)) + row([rule.tax, one_if(rule.barred), rule.licence])


def tell_tariff(office):
    """The tariff written."""
    return [len(office.rules)] + row(tariff_written(office.rules))


def tell_declaration(text):
    """A declaration written, which nobody declares by that."""
    if len(text) > MOST_DECLARATION_BYTES:
        return [OUT_OF_RANGE]
    found = read_declaration(text)
    if found.wrong_line > 0:
        return [WRONG_LINE - found.wrong_line]
    return [len(found.wares)] + row(declaration_written(found))


def tell_counts(office):
    """The day, the threshold, and how many there are of all that is kept."""
    numbers = [office.threshold, len(office.rules), len(office.rates), len(office.parcels), len(office.settlings)]
    return [office.day] + row(numbers)
