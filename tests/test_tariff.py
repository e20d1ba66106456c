"""The call tariff, the texts it takes, and the rule for a code."""

import unittest

from tests.helper import inspect, item, last, money, office, parcel, run, tariff


def read(text):
    """What the call tariff answers to a text."""
    return last(tariff(text))[0]


def rule_lines(how_many):
    return [f"{code:04} 1 1" for code in range(how_many)]


class Lines(unittest.TestCase):
    def all_wrong(self, lines):
        for line in lines:
            self.assertEqual(read(line), -1001, line)
            self.assertEqual(read("11 1 1\n" + line + "\n12 1 1"), -1002, line)

    def all_right(self, lines):
        for line in lines:
            self.assertEqual(read(line), 1, line)
            self.assertEqual(read("11 1 1\n" + line + "\n12 1 1"), 3, line)

    def test_texts_without_rules(self):
        for text in ("", " ", "\n", "   \n\n  \n"):
            self.assertEqual(read(text), 0, text)

    def test_how_many_rules(self):
        self.assertEqual(read("01 0 0"), 1)
        self.assertEqual(read("01 0 0\n0101 0 0\n010101 0 0"), 3)
        self.assertEqual(read("01 0 0\n"), 1)

    def test_lines_without_words_are_passed_over_but_counted(self):
        self.assertEqual(read("\n  \n01 1 1\n\n02 1 1\n\n"), 2)
        self.assertEqual(read("\n  \n01 1 1\n\nx\n"), -1005)

    def test_blanks(self):
        self.all_right(["  01   2  3  ", " 01 2 3  LICENCE   4   FREE  5   6 "])

    def test_other_bytes_are_no_blanks(self):
        self.all_wrong(["01\t2 3", "01 2 3\t", "\t", "01 2 3\r", "\r", "\x00", "01 2 3 \x00", "01\xa02 3", "\x0b"])

    def test_each_form(self):
        self.all_right(["01 2 3", "01 2 3 BARRED", "01 2 3 LICENCE 4", "01 2 3 FREE 5", "01 2 3 FREE 5 6 7",
                        "01 2 3 LICENCE 4 FREE 5", "01 2 3 LICENCE 4 FREE 5 6 99"])

    def test_no_other_form(self):
        self.all_wrong(["01", "01 2", "01 2 3 4", "01 2 3 barred", "01 2 3 BARRED BARRED", "01 2 3 BARRED 4",
                        "01 2 3 BARREDX", "01 2 3 BARRE", "01 2 3 LICENCE", "01 2 3 LICENCE BARRED",
                        "01 2 3 LICENCE 4 5", "01 2 3 LICENCE 4 BARRED", "01 2 3 BARRED LICENCE 4",
                        "01 2 3 LICENCE 4 LICENCE 5", "01 2 3 LICENSE 4", "01 2 3 licence 4", "01 2 3 FREE",
                        "01 2 3 LICENCE 4 FREE", "01 2 3 FREE 5 LICENCE 4", "01 2 3 FREE FREE 5",
                        "01 2 3 FREE 5 FREE 6", "01 2 3 BARRED FREE 5", "01 2 3 FREE 5 BARRED", "01 2 3 Free 5",
                        "01 2 3 LICENCE FREE 5", "01 2 3 LICENCE4", "01 2 3 FREE5", "BARRED", "01 2 BARRED",
                        "01 2 3 LICENCE 4 FREE x", "01 2 3 LICENCE x FREE 5"])

    def test_codes(self):
        self.all_right(["00 1 1", "99 1 1", "0000 1 1", "9999 1 1", "000000 1 1", "999999 1 1"])
        self.all_wrong(["0 1 1", "000 1 1", "00000 1 1", "0000000 1 1", "00000000 1 1", "0a 1 1", "-1 1 1",
                        "0/ 1 1", "0: 1 1", "0\xb2 1 1", "0000a0 1 1", "00.0 1 1", "x 1 1"])

    def test_duty_and_tax(self):
        self.all_right(["01 0 0", "01 1000 0", "01 0 1000", "01 1000 1000", "01 9 10"])
        for word in ("1001", "01", "00", "-1", "+1", "1.0", "a", "1a", "/", ":", "99999999", "100000000", "0001",
                     "000000001", "\xff"):
            self.all_wrong([f"01 {word} 0", f"01 0 {word}"])

    def test_licences(self):
        self.all_right([f"01 2 3 LICENCE {word}" for word in ("1", "9", "10", "99")])
        self.all_wrong([f"01 2 3 LICENCE {word}" for word in ("0", "100", "01", "-1", "x", "1000000000", "00000001")])
        self.all_wrong([f"01 2 3 LICENCE {word} FREE 1" for word in ("0", "100", "01", "x")])

    def test_origins(self):
        every = " ".join([str(origin) for origin in range(1, 100)])
        self.all_right(["01 2 3 FREE 1", "01 2 3 FREE 99", "01 2 3 FREE 1 99", "01 2 3 FREE " + every])
        for words in ("0", "100", "01", "0 1", "98 99 100", "5 x", "x 5", "5 06"):
            self.all_wrong(["01 2 3 FREE " + words, "01 2 3 LICENCE 4 FREE " + words])

    def test_origins_that_do_not_rise(self):
        for words in ("5 5", "6 5", "1 2 2", "1 3 2", "10 9"):
            self.all_wrong(["01 2 3 FREE " + words, "01 2 3 LICENCE 4 FREE " + words])

    def test_a_code_that_comes_twice(self):
        self.assertEqual(read("01 1 1\n02 1 1\n01 1 1"), -1003)
        self.assertEqual(read("01 1 1\n\n01 2 2 BARRED\nx"), -1003)
        self.assertEqual(read("0101 1 1\n0101 1 1"), -1002)
        self.assertEqual(read("01 1 1\n0101 1 1\n0100 1 1\n010100 1 1"), 4)

    def test_the_first_wrong_line(self):
        self.assertEqual(read("x\ny\nz"), -1001)
        self.assertEqual(read("01 1 1\ny\n01 1 1"), -1002)
        self.assertEqual(read("01 1 1\n01 1 1\ny"), -1002)

    def test_60_rules_and_one_more(self):
        self.assertEqual(read("\n".join(rule_lines(59))), 59)
        self.assertEqual(read("\n".join(rule_lines(60))), 60)
        self.assertEqual(read("\n".join(rule_lines(60)) + "\n \n"), 60)
        self.assertEqual(read("\n".join(rule_lines(61))), -1061)
        self.assertEqual(read("\n\n".join(rule_lines(62))), -1121)
        self.assertEqual(read("x\n" + "\n".join(rule_lines(61))), -1001)

    def test_length(self):
        self.assertEqual(read("01 1 1" + " " * 3994), 1)
        self.assertEqual(read("01 1 1" + " " * 3995), -1)
        self.assertEqual(read("\n" * 4000), 0)
        self.assertEqual(read("\n" * 4001), -1)
        self.assertEqual(read("x" * 4000), -1001)
        self.assertEqual(read("x" * 4001), -1)
        self.assertEqual(read("x" * 5000), -1)
        self.assertEqual(read("\n" * 3999 + "x"), -5000)


class Kept(unittest.TestCase):
    def test_a_new_tariff_takes_the_place_of_the_old_one(self):
        calls = office("01 100 0") + [tariff("02 200 0"), parcel(item("010101")), parcel(item("020202"))]
        self.assertEqual(run(*calls)[3:], [[1], [-4], [1, 2, 3, 200]])

    def test_an_empty_tariff_takes_its_place_too(self):
        self.assertEqual(last(*office("01 100 0"), tariff(""), parcel()), [-4])

    def test_a_refused_tariff_changes_nothing(self):
        for text in ("02 1 1\n01 500 0\nx", "x" * 4001, "01 500 0\n01 500 0"):
            calls = office("01 100 0") + [tariff(text), parcel(item("020101")), parcel()]
            self.assertEqual(run(*calls)[4:], [[-4], [1, 2, 3, 100]])

    def test_goods_that_are_there_keep_what_they_have(self):
        calls = office("01 100 0\n02 0 0 LICENCE 5")
        calls += [parcel(item("010101")), tariff("01 900 900\n02 0 0 BARRED"), parcel(item("010101", "0.01"))]
        # The first parcel's duty is still 100; of the new good duty 0.9 and tax 1.71 come to it, in all 102.
        self.assertEqual(run(*calls)[3:], [[1, 2, 3, 100], [2], [2, 2, 3, 2]])


class RuleForCode(unittest.TestCase):
    def charged(self, rules, code):
        return last(*office(rules), parcel(item(code)))

    def test_the_longest_rule(self):
        rules = "010203 300 0\n01 100 0\n0102 200 0"
        for code, charged in (("010203", 300), ("010204", 200), ("010303", 100), ("019999", 100)):
            self.assertEqual(self.charged(rules, code), [1, 2, 3, charged], code)

    def test_a_longer_rule_that_does_not_begin_it_is_no_rule_for_it(self):
        self.assertEqual(self.charged("0102 200 0\n010304 300 0", "010305"), [-4])
        self.assertEqual(self.charged("0102 200 0\n010304 300 0", "020102"), [-4])
        self.assertEqual(self.charged("02 200 0", "010202"), [-4])

    def test_six_digits_alone(self):
        self.assertEqual(self.charged("010203 300 0", "010203"), [1, 2, 3, 300])
        self.assertEqual(self.charged("010203 300 0", "010204"), [-4])

    def test_the_longest_rule_counts_with_all_it_says(self):
        self.assertEqual(self.charged("01 0 0 BARRED\n0102 200 0", "010203"), [1, 2, 3, 200])
        self.assertEqual(self.charged("01 100 0\n0102 200 0 BARRED", "010203"), [1, 2, 1, 0])
        self.assertEqual(self.charged("01 100 0 LICENCE 3\n0102 200 0", "010203"), [1, 2, 3, 200])
        self.assertEqual(self.charged("01 100 0\n0102 200 0 LICENCE 3", "010203"), [1, 2, 2, 0])
        self.assertEqual(self.charged("01 100 0 FREE 5\n0102 200 0", "010203"), [1, 2, 3, 200])

    def test_no_rule_at_first(self):
        self.assertEqual(last(money(1, 1), parcel()), [-4])
        self.assertEqual(last(*office("01 100 0"), parcel(), tariff("02 1 1"), inspect(1, 1, 1, "010101")), [-4])


if __name__ == "__main__":
    unittest.main()
