"""Lists of calls, and what is answered to them."""

from parcelduty.calls import add_licence, begin_anew, declare, inspect, pass_days, pay, send_back, set_rate
from parcelduty.calls import set_tariff, settle
from parcelduty.parcels import Office
from parcelduty.views import tell_counts, tell_declaration, tell_good, tell_group, tell_parcel, tell_rule, tell_tariff

FIRST_TELLING_CALL = 10


class UnknownCall(ValueError):
    """A number stands where a call begins, but no call has it."""


class CallReader:
    """A list of calls and how far it has been read; the list itself is only read."""

    def __init__(self, calls):
        self.calls = calls
        self.place = 0

    def has_more(self):
        """Whether something is left to be read."""
        return self.place < len(self.calls)

    def take(self):
        """The number that comes."""
        number = self.calls[self.place]
        self.place = self.place + 1
        return number

    def take_row(self):
        """The row that comes, which has its length before it."""
        length = self.take()
        row = self.calls[self.place:self.place + length]
        self.place = self.place + length
        return row


def change(office, call, reader):
    """Carry out a call that changes something, and give back the numbers it answers."""
    if call == 0:
        return begin_anew(office, reader.take())
    if call == 1:
        return set_tariff(office, reader.take_row())
    if call == 2:
        return set_rate(office, reader.take(), reader.take())
    if call == 3:
        return pass_days(office, reader.take())
    if call == 4:
        return declare(office, reader.take_row())
    if call == 5:
        return add_licence(office, reader.take(), reader.take())
    if call == 6:
        return pay(office, reader.take(), reader.take())
    if call == 7:
        return inspect(office, reader.take(), reader.take(), reader.take(), reader.take_row())
    if call == 8:
        return send_back(office, reader.take())
    if call == 9:
        return settle(office, reader.take(), reader.take(), reader.take())
    raise UnknownCall("no call has this number")


def tell(office, call, reader):
    """Give back the numbers that a call answers which only tells."""
    if call == 10:
        return tell_parcel(office, reader.take())
    if call == 11:
        return tell_good(office, reader.take(), reader.take())
    if call == 12:
        return tell_group(office, reader.take(), reader.take(), reader.take())
    if call == 13:
        return tell_rule(office, reader.take(), reader.take_row())
    if call == 14:
        return tell_tariff(office)
    if call == 15:
        return tell_declaration(reader.take_row())
    if call == 16:
        return tell_counts(office)
    raise UnknownCall("no call has this number")


def answer(office, reader):
    """Carry out the call that comes, and give back the numbers it answers."""
    call = reader.take()
    if call < FIRST_TELLING_CALL:
        return change(office, call, reader)
    return tell(office, call, reader)


def answers(calls):
    """The answers to a list of calls on an object that is new: of each how many numbers it has, and they."""
    reader = CallReader(calls)
    office = Office()
    told = []
    while reader.has_more():
        numbers = answer(office, reader)
        told.append(len(numbers))
        told.extend(numbers)
    return told
