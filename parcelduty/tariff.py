"""The tariff: its rules, how they are read from a text and written, and the rule for a code."""

from parcelduty.bounds import MOST_LICENCE, MOST_ORIGIN, MOST_RULES, MOST_THOUSANDTHS
from parcelduty.texts import NO_NUMBER, code_written, is_code, lines_of_words, number_within, spelled


class Rule:
    """What the tariff says of a code: duty and tax in thousandths, the licence it needs (0: none)."""

    def __init__(self, code, duty, tax):
        self.code = code
        self.duty = duty
        self.tax = tax
        self.barred = False
        self.licence = 0
        self.free = []


class TariffRead:
    """What a text tells: rules by their codes, or its first wrong line's number (0: none is wrong)."""

    def __init__(self):
        self.rules = {}
        self.wrong_line = 0


def origins_told(words):
    """The rising origins that words tell; none if a word isn't so."""
    origins = []
    least = 1
    for word in words:
        origin = number_within(word, least, MOST_ORIGIN)
        if origin == NO_NUMBER:
            return []
        origins.append(origin)
        least = origin + 1
    return origins


def frees(rule, words):
    """Give a rule the free origins that words tell, and say whether the words are so."""
    if not words:
        return True
    if words[0] != spelled("FREE"):
        return False
    rule.free = origins_told(words[1:])
    return len(rule.free) > 0


def limits(rule, words):
    """Give a rule what stands behind its tax, and say whether the words are so."""
    if words == [spelled("BARRED")]:
        rule.barred = True
        return True
    if len(words) < 2 or words[0] != spelled("LICENCE"):
        return frees(rule, words)
    licence = number_within(words[1], 1, MOST_LICENCE)
    if licence == NO_NUMBER:
        return False
    rule.licence = licence
    return frees(rule, words[2:])


def rule_told(words):
    """The rule that a line's words tell, None if they tell none."""
    if len(words) < 3 or not is_code(words[0]):
        return None
    duty = number_within(words[1], 0, MOST_THOUSANDTHS)
    tax = number_within(words[2], 0, MOST_THOUSANDTHS)
    if duty == NO_NUMBER or tax == NO_NUMBER:
        return None
    rule = Rule(tuple(words[0]), duty, tax)
    return rule if limits(rule, words[3:]) else None


def can_join(rules, rule):
    """Whether a line's rule may stand behind the rules of the lines above it."""
    return rule is not None and rule.code not in rules and len(rules) < MOST_RULES


def read_tariff(text):
    """The rules of a text, or which of its lines is the wrong one."""
    found = TariffRead()
    for place, words in enumerate(lines_of_words(text), start=1):
        if words:
            rule = rule_told(words)
            if not can_join(found.rules, rule):
                found.wrong_line = place
                return found
            found.rules[rule.code] = rule
    return found


def rule_for(rules, code):
    """The longest rule whose code the given one begins with (or is), None if there's none."""
    for length in (6, 4, 2):
        beginning = tuple(code[:length])
        if beginning in rules:
            return rules[beginning]
    return None


def duty_from(rule, origin):
    """The duty that a rule asks for goods of an origin."""
    return 0 if origin in rule.free else rule.duty


def rule_written(rule):
    """A rule as a line, without the line's end."""
    words = [code_written(rule.code), str(rule.duty), str(rule.tax)]
    if rule.barred:
        words.append("BARRED")
    if rule.licence > 0:
        words.extend(["LICENCE", str(rule.licence)])
    if rule.free:
        words.append("FREE")
        words.extend([str(origin) for origin in rule.free])
    return " ".join(words)


def tariff_written(rules):
    """The bytes of the text that tells rules, by their codes."""
    lines = [rule_written(rules[code]) for code in sorted(rules)]
    return spelled("".join([line + "\n" for line in lines]))
