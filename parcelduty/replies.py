"""What answers are made of: the refusals that several calls share, and rows."""

from parcelduty.bounds import MOST_PARCELS, MOST_PERSON, MOST_WEEK, PARTS

OUT_OF_RANGE = -1
NO_CODE = -2
NO_RATE = -3
NOT_THERE = -4
ALREADY_SO = -5
NOT_NOW = -6
NOT_AS_TOLD = -7
TOO_MANY = -8
WRONG_LINE = -1000


def row(numbers):
    """Numbers as an answer tells them: how many there are, then they."""
    return [len(numbers)] + numbers


def parts_row(parts):
    """The row that tells parts: the whole hundredths, and what's left."""
    return row(list(divmod(parts, PARTS)))


def parcel_refusal(office, number):
    """Why a number is no parcel's, 0 if it's one's."""
    if not 1 <= number <= MOST_PARCELS:
        return OUT_OF_RANGE
    if number > len(office.parcels):
        return NOT_THERE
    return 0


def group_refusal(sender, receiver, week):
    """Why numbers tell no group, 0 if they tell one."""
    if not 1 <= sender <= MOST_PERSON or not 1 <= receiver <= MOST_PERSON or not 0 <= week <= MOST_WEEK:
        return OUT_OF_RANGE
    return 0
