"""What goods are worth and what is owed for them, by parcels and by groups."""

from parcelduty.bounds import DAYS_OF_WEEK, PARTS, PARTS_OF_RATE, THOUSANDTHS
from parcelduty.parcels import BARRED, LICENCE_MISSING, RELEASED, TO_BE_PAID


def worth_parts(good, rate):
    """A good's worth in parts, at its parcel's rate."""
    return good.value * rate * PARTS_OF_RATE


def duty_parts(good, rate):
    """A good's duty in parts."""
    return worth_parts(good, rate) * good.duty // THOUSANDTHS


def tax_parts(good, rate):
    """A good's tax in parts: its duty is taxed too."""
    return (worth_parts(good, rate) + duty_parts(good, rate)) * good.tax // THOUSANDTHS


def worths_together(parcel):
    """The worths of a parcel's goods, in parts."""
    return sum([worth_parts(good, parcel.rate) for good in parcel.goods])


def dues_together(parcel):
    """The duties and taxes of a parcel's goods, in parts."""
    return sum([duty_parts(good, parcel.rate) + tax_parts(good, parcel.rate) for good in parcel.goods])


def week_of(day):
    """The week that a day is in."""
    return day // DAYS_OF_WEEK


def is_of_group(parcel, sender, receiver, week):
    """Whether a parcel is one of the group of a sender, a receiver and a week."""
    if parcel.sender != sender or parcel.receiver != receiver or week_of(parcel.day) != week:
        return False
    return parcel.state in (TO_BE_PAID, RELEASED)


def parcels_of(office, sender, receiver, week):
    """The parcels of a group."""
    return [parcel for parcel in office.parcels if is_of_group(parcel, sender, receiver, week)]


def settled_for(office, sender, receiver, week):
    """The amounts of all settlings for a sender, a receiver and a week, in hundredths."""
    amounts = []
    for settling in office.settlings:
        if settling.sender == sender and settling.receiver == receiver and settling.week == week:
            amounts.append(settling.amount)
    return sum(amounts)


def owed_by(parcels, gathered, threshold):
    """What a group's parcels owe in hundredths, where their worths come to what is gathered."""
    if gathered <= threshold * PARTS:
        return 0
    # Rounded down once for all: parting goods over parcels must not lose a fraction each time.
    return sum([dues_together(parcel) for parcel in parcels]) // PARTS


class Group:
    """How many parcels a group has, what they are worth (parts), what it owes and was charged (hundredths)."""

    def __init__(self, parcels, settled, threshold):
        self.size = len(parcels)
        self.gathered = sum([worths_together(parcel) for parcel in parcels])
        self.owed = owed_by(parcels, self.gathered, threshold)
        self.charged = sum([parcel.charged for parcel in parcels]) + settled

    def due(self):
        """What it owes less what it was charged."""
        return self.owed - self.charged


def group_of(office, sender, receiver, week):
    """The group of a sender, a receiver and a week."""
    parcels = parcels_of(office, sender, receiver, week)
    return Group(parcels, settled_for(office, sender, receiver, week), office.threshold)


def has_barred(parcel):
    """Whether one of a parcel's goods is barred."""
    return any([good.barred for good in parcel.goods])


def lacks_licence(parcel):
    """Whether a licence that one of a parcel's goods needs isn't among its licences."""
    needed = [good.licence for good in parcel.goods if good.licence > 0]
    return any([licence not in parcel.licences for licence in needed])


def charge(office, parcel):
    """Charge a parcel what its group still owes, or release it if that's nothing."""
    # The parcel must count in its own group, and what it was charged before must not.
    parcel.state = TO_BE_PAID
    parcel.charged = 0
    amount = group_of(office, parcel.sender, parcel.receiver, week_of(parcel.day)).due()
    if amount > 0:
        parcel.charged = amount
    else:
        parcel.state = RELEASED


def look_at(office, parcel):
    """Work out a parcel's state and what it's charged."""
    if has_barred(parcel):
        parcel.state = BARRED
        parcel.charged = 0
    elif lacks_licence(parcel):
        parcel.state = LICENCE_MISSING
        parcel.charged = 0
    else:
        charge(office, parcel)
