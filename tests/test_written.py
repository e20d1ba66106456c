"""The calls look, print and read: what the tariff says of a code, and texts as they are written."""

import unittest

from tests.helper import (begin, counts, day, declaration, declare, group, item, last, look, money, office, parcel,
                          print_tariff, read, rows, run, settle, tariff, tell_good, tell_parcel, text_of)

RULES = "01 100 50\n0102 7 8 LICENCE 9 FREE 4 5\n010203 1000 0\n02 1 2 BARRED\n0301 0 1000\n040506 3 4 FREE 1 99"


def looked(rules, origin, code):
    """What look tells of a code: duty, the rule's code, and the row behind it."""
    told = rows(last(tariff(rules), look(origin, code)))
    return [told[0], text_of(told[1]), told[2]]


def printed(*calls):
    """How many rules print tells, and the tariff's text."""
    told = rows(last(*calls, print_tariff()))
    return [told[0], text_of(told[1])]


def written(text):
    """How many items read tells, and the declaration's text."""
    told = rows(last(read(text)))
    return [told[0], text_of(told[1])]


class Look(unittest.TestCase):
    def test_the_whole_answer(self):
        self.assertEqual(last(tariff(RULES), look(3, "0102")), [7, 4, 48, 49, 48, 50, 3, 8, 0, 9])

    def test_codes_of_2_4_and_6_digits(self):
        self.assertEqual(looked(RULES, 1, "01"), [100, "01", [50, 0, 0]])
        self.assertEqual(looked(RULES, 1, "0102"), [7, "0102", [8, 0, 9]])
        self.assertEqual(looked(RULES, 1, "010203"), [1000, "010203", [0, 0, 0]])

    def test_the_longest_rule(self):
        for code, rule in (("0103", "01"), ("010303", "01"), ("010204", "0102"), ("010203", "010203"),
                           ("019999", "01"), ("030199", "0301")):
            self.assertEqual(looked(RULES, 1, code)[1], rule)

    def test_a_rule_longer_than_the_code_is_no_rule_for_it(self):
        for code in ("03", "04", "0405", "030201", "040507"):
            self.assertEqual(last(tariff(RULES), look(1, code)), [-4], code)
        self.assertEqual(looked("0102 1 1\n01 2 2", 1, "01"), [2, "01", [2, 0, 0]])

    def test_a_free_origin(self):
        for origin, duty in ((3, 7), (4, 0), (5, 0), (6, 7), (45, 7)):
            self.assertEqual(looked(RULES, origin, "010204"), [duty, "0102", [8, 0, 9]])
        for origin, duty in ((1, 0), (2, 3), (98, 3), (99, 0)):
            self.assertEqual(looked(RULES, origin, "040506"), [duty, "040506", [4, 0, 0]])

    def test_a_free_origin_of_a_shorter_rule_does_not_count(self):
        self.assertEqual(looked(RULES, 4, "010203"), [1000, "010203", [0, 0, 0]])

    def test_a_barred_code(self):
        self.assertEqual(looked(RULES, 1, "020000"), [1, "02", [2, 1, 0]])

    def test_range_of_the_origin(self):
        for origin in (0, -1, 100):
            self.assertEqual(last(tariff(RULES), look(origin, "01")), [-1])
        for origin in (1, 99):
            self.assertEqual(last(tariff(RULES), look(origin, "01"))[0], 100)

    def test_no_code(self):
        for code in ("", "0", "010", "01020", "0102030", "01020304", "0a", "010a", "01020:", "01020/", " 01", "01 ",
                     "01\n", "x", [255, 255], [0] * 6, "01" * 2500):
            self.assertEqual(last(tariff(RULES), look(1, code)), [-2], code)

    def test_no_rule(self):
        self.assertEqual(last(look(1, "01")), [-4])
        self.assertEqual(run(tariff(RULES), look(1, "05"), look(1, "0501"), look(1, "050101"), look(1, "10"))[1:],
                         [[-4]] * 4)

    def test_order(self):
        for arguments, answer in (((0, "x"), -1), ((100, "05"), -1), ((1, "x"), -2), ((1, "05"), -4)):
            self.assertEqual(last(tariff(RULES), look(*arguments)), [answer])

    def test_by_the_tariff_as_it_is_now(self):
        told = run(tariff("01 1 1"), look(1, "01"), tariff("01 2 2"), look(1, "01"), tariff("x"), look(1, "01"),
                   begin(0), look(1, "01"))
        self.assertEqual([answer[0] for answer in told[1::2]], [1, 2, 2, -4])


class Print(unittest.TestCase):
    def test_no_rules(self):
        self.assertEqual(last(print_tariff()), [0, 0])
        self.assertEqual(last(tariff(RULES), tariff(" \n\n"), print_tariff()), [0, 0])
        self.assertEqual(last(tariff(RULES), begin(0), print_tariff()), [0, 0])

    def test_the_whole_answer(self):
        self.assertEqual(last(tariff(" 01   0 10 "), print_tariff()), [1, 8, 48, 49, 32, 48, 32, 49, 48, 10])

    def test_each_form(self):
        for line in ("01 2 3", "0102 0 0", "010203 1000 1000", "01 2 3 BARRED", "01 2 3 LICENCE 1",
                     "01 2 3 LICENCE 99", "01 2 3 FREE 5", "01 2 3 FREE 1 10 99", "01 2 3 LICENCE 4 FREE 5",
                     "01 2 3 LICENCE 40 FREE 5 6 7 8"):
            self.assertEqual(printed(tariff(line)), [1, line + "\n"])
            self.assertEqual(printed(tariff("\n  " + line.replace(" ", "   ") + "  \n \n")), [1, line + "\n"])

    def test_by_their_codes(self):
        text = "0999 1 1\n02 1 1\n10 1 1\n010101 1 1\n0102 1 1\n01 1 1\n000001 1 1\n0101 1 1\n0100 1 1\n99 1 1\n00 1 1"
        codes = ["00", "000001", "01", "0100", "0101", "010101", "0102", "02", "0999", "10", "99"]
        self.assertEqual(printed(tariff(text)), [11, "".join([code + " 1 1\n" for code in codes])])

    def test_rules_keep_what_they_say(self):
        text = "02 1 2 BARRED\n\n01 3 4 FREE 9\n  0101 5 6 LICENCE 7"
        self.assertEqual(printed(tariff(text)), [3, "01 3 4 FREE 9\n0101 5 6 LICENCE 7\n02 1 2 BARRED\n"])

    def test_60_rules(self):
        lines = [f"{code:06} {code} {1000 - code} LICENCE {code + 1} FREE {code + 1} {code + 2}" for code in range(60)]
        told = printed(tariff("\n".join(reversed(lines))))
        self.assertEqual(told, [60, "\n".join(lines) + "\n"])

    def test_what_is_printed_is_read_as_the_same_tariff(self):
        backwards = "\n\n".join(reversed(RULES.split("\n")))
        for text in (RULES, backwards, "", "  \n"):
            how_many, again = printed(tariff(text))
            self.assertEqual(last(tariff(again)), [how_many])
            self.assertEqual(printed(tariff(again)), [how_many, again])
            codes = ("01", "0102", "010203", "010204", "020000", "03", "0301", "040506")
            looks = [look(origin, code) for origin in (1, 4, 99) for code in codes]
            self.assertEqual(run(tariff(again), *looks)[1:], run(tariff(text), *looks)[1:])

    def test_written_it_may_have_a_byte_more_than_a_tariff_may(self):
        def rule(head, how_many):
            return head + " FREE " + " ".join(str(origin) for origin in range(10, 10 + how_many))

        text = "\n".join([rule("10 10 10", 83)] + [rule(f"{code} 1 1", 85) for code in range(11, 25)])
        self.assertEqual(len(text), 4000)
        self.assertEqual(printed(tariff(text)), [15, text + "\n"])
        self.assertEqual(last(tariff(text + "\n")), [-1])

    def test_nothing_changes(self):
        told = run(tariff(RULES), print_tariff(), print_tariff(), counts())
        self.assertEqual([told[1] == told[2], told[3]], [True, [0, 5, 0, 6, 0, 0, 0]])

    def test_40_times(self):
        told = run(tariff(RULES), *[print_tariff()] * 40)
        self.assertEqual(told[1:], [told[1]] * 40)


class Read(unittest.TestCase):
    def test_the_whole_answer(self):
        text = "FROM 1\nTO 2\nMONEY 3\nITEM 010203 0.05 6"
        self.assertEqual(last(read(text)), [1, len(text)] + [ord(sign) for sign in text])

    def test_what_is_written_so_already(self):
        for text in (declaration(), declaration(item(), item("999999", "0.01", 99), "LICENCE 1", "LICENCE 99"),
                     declaration(sender=9999, receiver=9999, coin=9), declaration(*[item()] * 20)):
            self.assertEqual(written(text), [text.count("ITEM"), text])

    def test_blanks(self):
        text = "   FROM    1  \n TO 2 \nMONEY     3\n  ITEM  010203  10.00    5 \nITEM 000000 1.00 1\n LICENCE   7  "
        lines = ["FROM 1", "TO 2", "MONEY 3", "ITEM 010203 10.00 5", "ITEM 000000 1.00 1", "LICENCE 7"]
        self.assertEqual(written(text), [2, "\n".join(lines)])

    def test_money(self):
        for value in ("0.01", "0.09", "0.10", "0.99", "1.00", "1.05", "10.50", "100.00", "999999.99", "1000000.00"):
            text = declaration(item(value=value))
            self.assertEqual(written(text), [1, text])

    def test_how_many_items(self):
        for how_many in (1, 2, 19, 20):
            self.assertEqual(written(declaration(*[item()] * how_many, "LICENCE 3"))[0], how_many)

    def test_items_in_the_order_told(self):
        text = declaration(item("030303", "3.00", 3), item("010101", "1.00", 1), item("020202", "2.00", 2),
                           item("010101", "1.00", 1))
        self.assertEqual(written(text), [4, text])

    def test_many_licences(self):
        text = declaration(item(), *[f"LICENCE {number}" for number in range(20, 90)])
        self.assertEqual(written(text), [1, text])

    def test_what_is_written_is_read_as_the_same_declaration(self):
        text = " FROM 3\nTO   4\nMONEY 1 \nITEM  010203 10.05   5\nITEM 020000 0.50 6 \nLICENCE 2\nLICENCE  9"
        again = written(text)[1]
        self.assertEqual(written(again), [2, again])
        tell = [tell_parcel(1), tell_good(1, 1), tell_good(1, 2)]
        self.assertEqual(run(*office(RULES), declare(text), *tell), run(*office(RULES), declare(again), *tell))

    def test_length(self):
        text = declaration()
        self.assertEqual(written(text + " " * (1000 - len(text))), [1, text])
        self.assertEqual(last(read(text + " " * (1001 - len(text)))), [-1])
        self.assertEqual(last(read("x" * 1000)), [-1001])
        self.assertEqual(last(read("x" * 1001)), [-1])
        self.assertEqual(last(read("x" * 5000)), [-1])

    def test_a_money_without_a_rate_and_codes_without_a_rule(self):
        text = declaration(item("990000"), coin=9)
        self.assertEqual(written(text), [1, text])
        self.assertEqual(run(*office(), read(text), declare(text))[3][0], 1)

    def test_100_parcels(self):
        self.assertEqual(last(*office("01 0 0"), *[parcel()] * 100, read(declaration()))[0], 1)

    def test_nothing_changes(self):
        calls = office(threshold=1500) + [parcel(), parcel(), parcel()]
        reads = [read(declaration()), read(declaration(item("990000"), coin=9)), read("x"), read("x" * 1001)]
        told = [counts(), print_tariff(), tell_parcel(1), tell_parcel(2), tell_parcel(3), tell_parcel(4), group(),
                settle(1, 2, 0), parcel(coin=9), parcel(item("990000")), parcel(), day(0)]
        self.assertEqual(run(*calls, *reads, *told)[-len(told):], run(*calls, *told)[-len(told):])
        self.assertEqual(run(money(1, 1), *reads, counts())[-1], [0, 5, 0, 0, 1, 0, 0])


if __name__ == "__main__":
    unittest.main()
