"""Calls as lists of numbers, ordinary texts, and the answers taken apart again."""

from parcelduty.customs import answers

LEAST = -(2 ** 63)
GREATEST = 2 ** 63 - 1
ONE_TO_ONE = 1000000


def row(text):
    """A text (str or a list of bytes) with its length before it."""
    numbers = [ord(sign) for sign in text] if isinstance(text, str) else list(text)
    return [len(numbers)] + numbers


def begin(threshold):
    return [0, threshold]


def tariff(text):
    return [1] + row(text)


def money(number, rate):
    return [2, number, rate]


def day(more):
    return [3, more]


def declare(text):
    return [4] + row(text)


def licence(parcel, number):
    return [5, parcel, number]


def pay(parcel, amount):
    return [6, parcel, amount]


def inspect(parcel, good, value, code):
    return [7, parcel, good, value] + row(code)


def back(parcel):
    return [8, parcel]


def settle(sender, receiver, week):
    return [9, sender, receiver, week]


def tell_parcel(number):
    return [10, number]


def tell_good(number, good):
    return [11, number, good]


def group(sender=1, receiver=2, week=0):
    return [12, sender, receiver, week]


def look(origin, code):
    return [13, origin] + row(code)


def print_tariff():
    return [14]


def read(text):
    return [15] + row(text)


def counts():
    return [16]


def run(*calls):
    """The answers to calls, a list of numbers each."""
    told = answers([number for call in calls for number in call])
    parted = []
    place = 0
    while place < len(told):
        parted.append(told[place + 1:place + 1 + told[place]])
        place += 1 + told[place]
    assert place == len(told), told
    assert len(parted) == len(calls), told
    return parted


def last(*calls):
    """The answer to the last one of calls."""
    return run(*calls)[-1]


def rows(answer):
    """An answer taken apart: the number, then each of its rows as a list."""
    parted = [answer[0]]
    place = 1
    while place < len(answer):
        parted.append(answer[place + 1:place + 1 + answer[place]])
        place += 1 + answer[place]
    assert place == len(answer), answer
    return parted


def text_of(numbers):
    """The text that a row of bytes tells."""
    return "".join(map(chr, numbers))


def item(code="010101", value="10.00", origin=5):
    return f"ITEM {code} {value} {origin}"


def declaration(*lines, sender=1, receiver=2, coin=1):
    """A declaration with these lines behind its first three; one ordinary item if none are given."""
    head = [f"FROM {sender}", f"TO {receiver}", f"MONEY {coin}"]
    return "\n".join(head + list(lines or [item()]))


def parcel(*lines, **head):
    """The call that declares such a declaration."""
    return declare(declaration(*lines, **head))


def office(rules="01 100 0", threshold=0, rate=ONE_TO_ONE):
    """The calls that make an office ready for declarations in money 1."""
    return [begin(threshold), tariff(rules), money(1, rate)]


def in_each_state(rules, licensed="030101", value="10.00", threshold=0):
    """Calls that end with parcels 1 to 5, each in the state of its number, from sender 1 to receivers 11 to 15.

    By the rules 01 is ordinary, 02 barred, 05 free of all, and one code needs a licence that isn't 9.
    """
    codes = ("020101", licensed, "010101", "050101", "010101")
    one_each = [parcel(item(code, value), "LICENCE 9", receiver=place) for place, code in enumerate(codes, start=11)]
    return office(rules, threshold=threshold) + one_each + [back(5)]
