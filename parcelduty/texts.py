"""Texts as lists of bytes: their lines and words, and the numbers, codes and moneys among the words."""

from parcelduty.bounds import MOST_DIGITS, MOST_VALUE

LINE_END = 10
BLANK = 32
POINT = 46
DIGIT_0 = 48
DIGIT_9 = 57

NO_NUMBER = -1


def parted(signs, mark):
    """What stands between the marks of a list: one piece more than it has marks."""
    pieces = []
    piece = []
    for sign in signs:
        if sign == mark:
            pieces.append(piece)
            piece = []
        else:
            piece.append(sign)
    pieces.append(piece)
    return pieces


def words_of(line):
    """A line's words."""
    return [word for word in parted(line, BLANK) if word]


def lines_of_words(text):
    """For each line of a text its words."""
    return [words_of(line) for line in parted(text, LINE_END)]


def spelled(words):
    """The bytes of words that the program writes or knows by name."""
    return [ord(sign) for sign in words]


def has_digits_alone(word):
    """Whether each byte of a word is a digit."""
    return all([DIGIT_0 <= byte <= DIGIT_9 for byte in word])


def is_code(word):
    """Whether a word is a code."""
    return len(word) in (2, 4, 6) and has_digits_alone(word)


def is_full_code(word):
    """Whether a word is a code of 6 digits, as goods have it."""
    return len(word) == 6 and is_code(word)


def worked_out(digits):
    """What digits tell, whatever their first one is."""
    number = 0
    for digit in digits:
        number = number * 10 + digit - DIGIT_0
    return number


def number_told(word):
    """The number that a word tells; NO_NUMBER if it tells none."""
    if not 1 <= len(word) <= MOST_DIGITS or not has_digits_alone(word):
        return NO_NUMBER
    if len(word) > 1 and word[0] == DIGIT_0:
        return NO_NUMBER
    return worked_out(word)


def number_within(word, least, most):
    """The number from least to most that a word tells; NO_NUMBER if it tells none."""
    number = number_told(word)
    return number if least <= number <= most else NO_NUMBER


def money_told(word):
    """The hundredths that a word tells as money; NO_NUMBER if it isn't money."""
    if len(word) < 4 or word[-3] != POINT or not has_digits_alone(word[-2:]):
        return NO_NUMBER
    coins = number_told(word[:-3])
    if coins == NO_NUMBER:
        return NO_NUMBER
    hundredths = coins * 100 + worked_out(word[-2:])
    return hundredths if 1 <= hundredths <= MOST_VALUE else NO_NUMBER


def money_written(hundredths):
    """Hundredths as a text tells them: whole coins, a point, two digits."""
    coins = str(hundredths // 100)
    rest = str(hundredths % 100).zfill(2)
    return f"{coins}.{rest}"


def code_written(code):
    """The digits of a code, as a text."""
    return "".join([str(byte - DIGIT_0) for byte in code])
