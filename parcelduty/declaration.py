"""Declarations: how they are read from a text, line by line, and written."""

from parcelduty.bounds import MOST_GOODS, MOST_LICENCE, MOST_MONEY, MOST_ORIGIN, MOST_PERSON
from parcelduty.texts import NO_NUMBER, code_written, is_full_code, lines_of_words, money_told, money_written
from parcelduty.texts import number_within, spelled


class Item:
    """A good as it's declared."""

    def __init__(self, code, value, origin):
        self.code = code
        self.value = value
        self.origin = origin


class DeclarationRead:
    """What a text tells, and its first wrong line's number (0: none is wrong)."""

    def __init__(self):
        self.sender = 0
        self.receiver = 0
        self.money = 0
        self.wares = []
        self.licences = []
        self.wrong_line = 0


def number_behind(words, name, least, most):
    """The number of a line that is this name and a number from least to most; else NO_NUMBER."""
    if len(words) != 2 or words[0] != spelled(name):
        return NO_NUMBER
    return number_within(words[1], least, most)


def item_told(words):
    """The item that a line's words tell, None if they tell none."""
    if len(words) != 4 or words[0] != spelled("ITEM") or not is_full_code(words[1]):
        return None
    value = money_told(words[2])
    origin = number_within(words[3], 1, MOST_ORIGIN)
    if value == NO_NUMBER or origin == NO_NUMBER:
        return None
    return Item(tuple(words[1]), value, origin)


def takes_item(found, words):
    """Add the item that words tell, and say whether one may stand here."""
    item = item_told(words)
    if item is None or found.licences or len(found.wares) == MOST_GOODS:
        return False
    found.wares.append(item)
    return True


def takes_licence(found, words):
    """Add the licence that words tell, and say whether one may stand here."""
    least = found.licences[-1] + 1 if found.licences else 1
    licence = number_behind(words, "LICENCE", least, MOST_LICENCE)
    if licence == NO_NUMBER or not found.wares:
        return False
    found.licences.append(licence)
    return True


def takes_line(found, place, words):
    """Add what the line at a place (from 1) tells, and say whether the line is so."""
    if place == 1:
        found.sender = number_behind(words, "FROM", 1, MOST_PERSON)
        return found.sender != NO_NUMBER
    if place == 2:
        found.receiver = number_behind(words, "TO", 1, MOST_PERSON)
        return found.receiver != NO_NUMBER
    if place == 3:
        found.money = number_behind(words, "MONEY", 1, MOST_MONEY)
        return found.money != NO_NUMBER
    return takes_item(found, words) or takes_licence(found, words)


def read_declaration(text):
    """The declaration that a text tells, or which of its lines is the wrong one."""
    found = DeclarationRead()
    lines = lines_of_words(text)
    for place, words in enumerate(lines, start=1):
        if not takes_line(found, place, words):
            found.wrong_line = place
            return found
    if not found.wares:
        found.wrong_line = len(lines) + 1
    return found


def item_written(item):
    """An item as a line."""
    return " ".join(["ITEM", code_written(item.code), money_written(item.value), str(item.origin)])


def declaration_written(found):
    """The bytes of the text that tells a declaration."""
    lines = ["FROM " + str(found.sender), "TO " + str(found.receiver), "MONEY " + str(found.money)]
    lines.extend([item_written(item) for item in found.wares])
    lines.extend(["LICENCE " + str(licence) for licence in found.licences])
    return spelled("\n".join(lines))
