"""The call declare: the texts it takes (read takes them too), its refusals and their order."""

import unittest

from parcelduty.texts import NO_NUMBER, number_told
from tests.helper import (back, begin, day, declaration, declare, item, last, licence, money, office, parcel, pay, read,
                          rows, run, tariff, text_of)

FREE_OF_ALL = "01 0 0"


def declared(text):
    """What the call declare answers to a text, where only its form can be refused."""
    return last(*office(FREE_OF_ALL), money(9, 1), declare(text))


class Lines(unittest.TestCase):
    def wrong(self, text, line):
        self.assertEqual(declared(text), [-1000 - line], text)
        self.assertEqual(last(read(text)), [-1000 - line], text)

    def right(self, text):
        self.assertEqual(declared(text), [1, 2, 4, 0], text)
        words = [" ".join(line.split()) for line in text.split("\n")]
        self.assertEqual(text_of(rows(last(read(text)))[1]), "\n".join(words))

    def test_ordinary(self):
        self.right("FROM 1\nTO 2\nMONEY 1\nITEM 010101 10.00 5")
        self.right("FROM 1\nTO 2\nMONEY 1\nITEM 010101 10.00 5\nITEM 010102 0.50 6\nLICENCE 3\nLICENCE 4")

    def test_blanks(self):
        self.right("  FROM   1 \nTO  2\n MONEY 1  \n  ITEM  010101  10.00   5 \n LICENCE   3  ")

    def test_other_bytes_are_no_blanks(self):
        self.wrong("FROM\t1\nTO 2", 1)
        self.wrong("FROM 1\r\nTO 2", 1)
        self.wrong(declaration(item() + "\t"), 4)
        self.wrong(declaration(item() + " \x00"), 4)
        self.wrong(declaration(item(), "LICENCE\xa03"), 5)

    def test_empty_lines_are_wrong(self):
        lines = declaration(item(), "LICENCE 3").split("\n")
        for place in range(len(lines) + 1):
            for empty in ("", "   "):
                self.wrong("\n".join(lines[:place] + [empty] + lines[place:]), place + 1)

    def test_a_line_end_behind_the_last_line(self):
        self.wrong("FROM 1\n", 2)
        self.wrong(declaration(item()) + "\n", 5)
        self.wrong(declaration(item(), "LICENCE 3") + "\n", 6)

    def test_missing_lines(self):
        self.wrong("", 1)
        self.wrong("FROM 1", 2)
        self.wrong("FROM 1\nTO 2", 3)
        self.wrong("FROM 1\nTO 2\nMONEY 1", 4)
        self.wrong("FROM 1\nTO 2\nMONEY 1\nLICENCE 3", 4)
        self.wrong("TO 2\nMONEY 1\n" + item(), 1)
        self.wrong("FROM 1\nMONEY 1\n" + item(), 2)
        self.wrong("FROM 1\nTO 2\n" + item(), 3)

    def test_the_first_wrong_line(self):
        self.wrong("x\ny\nz", 1)
        self.wrong("FROM 1\ny\nz", 2)
        self.wrong("FROM 1\nTO 0\nMONEY 0", 2)
        self.wrong(declaration("ITEM", "LICENCE"), 4)
        self.wrong("x" * 1000, 1)

    def test_lines_in_another_order(self):
        self.wrong("TO 2\nFROM 1\nMONEY 1\n" + item(), 1)
        self.wrong("FROM 1\nMONEY 1\nTO 2\n" + item(), 2)
        self.wrong("FROM 1\nTO 2\n" + item() + "\nMONEY 1", 3)
        self.wrong(declaration(item(), "LICENCE 3", item()), 6)
        self.wrong(declaration("LICENCE 3", item()), 4)

    def test_lines_that_come_again(self):
        self.wrong("FROM 1\nFROM 1\nTO 2\nMONEY 1\n" + item(), 2)
        self.wrong(declaration("MONEY 1", item()), 4)
        self.wrong(declaration(item(), "FROM 1"), 5)
        self.wrong(declaration(item(), "TO 2"), 5)

    def test_sender_and_receiver(self):
        for word in ("1", "9", "10", "9999"):
            self.right(declaration(sender=word))
            self.right(declaration(receiver=word))
        for word in ("", "0", "10000", "01", "-1", "+1", "x", "1x", "1 1", "1.0", "/", ":", "99999999", "100000000",
                     "00000001", "000000001", "\xff"):
            self.wrong(declaration(sender=word), 1)
            self.wrong(declaration(receiver=word), 2)

    def test_money(self):
        self.right(declaration(coin="1"))
        self.right(declaration(coin="9"))
        for word in ("", "0", "10", "01", "-1", "x", "1 1"):
            self.wrong(declaration(coin=word), 3)

    def test_names_of_lines(self):
        for name in ("from", "FROMM", "FRO", "To", "1"):
            self.wrong(f"{name} 1\nTO 2\nMONEY 1\n" + item(), 1)
        self.wrong("FROM 1\nto 2\nMONEY 1\n" + item(), 2)
        self.wrong("FROM 1\nTO 2\nmoney 1\n" + item(), 3)
        self.wrong(declaration(item().lower()), 4)
        self.wrong(declaration("ITEMS 010101 10.00 5"), 4)
        self.wrong(declaration(item(), "LICENSE 3"), 5)

    def test_words_of_an_item(self):
        for line in ("ITEM", "ITEM 010101", "ITEM 010101 10.00", "ITEM 010101 10.00 5 6", "ITEM 10.00 010101 5",
                     "010101 10.00 5"):
            self.wrong(declaration(line), 4)
            self.wrong(declaration(item(), line), 5)

    def test_codes_of_items(self):
        self.right(declaration(item("010000")))
        self.right(declaration(item("019999")))
        for code in ("01", "0101", "01010", "0101011", "01010101", "01010a", "01010/", "01010:", "x", "01-101"):
            self.wrong(declaration(item(code)), 4)

    def test_values_of_items(self):
        for value in ("0.01", "0.10", "0.99", "1.00", "10.09", "999999.99", "1000000.00"):
            self.right(declaration(item(value=value)))
        for value in ("0.00", "1000000.01", "1000001.00", "9999999.99", "99999999.99", "100000000.00", "00.01",
                      "01.00", "001.00", ".01", ".00", "1", "100", "1.", "1.0", "1.000", "1,00", "1.0a", "1.a0",
                      "a.00", "-1.00", "+1.00", "1.-1", "1..0", "1.0.", "1./0", "1.:0", "1/.00", "/", "x", "1.00.00",
                      "000000001.00", "1000"):
            self.wrong(declaration(item(value=value)), 4)

    def test_origins_of_items(self):
        self.right(declaration(item(origin="1")))
        self.right(declaration(item(origin="99")))
        for origin in ("0", "100", "01", "-1", "x", "5.0", "100000000"):
            self.wrong(declaration(item(origin=origin)), 4)

    def test_20_items_and_one_more(self):
        self.right(declaration(*[item()] * 20))
        self.right(declaration(*[item()] * 20, "LICENCE 3"))
        self.wrong(declaration(*[item()] * 21), 24)
        self.wrong(declaration(*[item()] * 21, "LICENCE 0"), 24)

    def test_licences(self):
        self.right(declaration(item(), "LICENCE 1"))
        self.right(declaration(item(), "LICENCE 99"))
        self.right(declaration(item(), "LICENCE 1", "LICENCE 2", "LICENCE 99"))
        self.right(declaration(item(), *[f"LICENCE {number}" for number in range(20, 90)]))
        for line in ("LICENCE", "LICENCE 0", "LICENCE 100", "LICENCE 03", "LICENCE x", "LICENCE 3 4", "licence 3",
                     "LICENCE -1", "3"):
            self.wrong(declaration(item(), line), 5)
            self.wrong(declaration(item(), "LICENCE 2", line), 6)

    def test_licences_that_do_not_rise(self):
        self.wrong(declaration(item(), "LICENCE 3", "LICENCE 3"), 6)
        self.wrong(declaration(item(), "LICENCE 3", "LICENCE 2"), 6)
        self.wrong(declaration(item(), "LICENCE 3", "LICENCE 5", "LICENCE 4"), 7)
        self.wrong(declaration(item(), "LICENCE 9", "LICENCE 10", "LICENCE 10"), 7)

    def test_length(self):
        text = declaration()
        self.right(text + " " * (1000 - len(text)))
        self.assertEqual(declared(text + " " * (1001 - len(text))), [-1])
        self.assertEqual(declared("x" * 1001), [-1])
        self.assertEqual(declared("x" * 5000), [-1])


class Numbers(unittest.TestCase):
    """No place in a text takes a number of 8 digits, so whether it is one is asked of the reader itself."""

    def told(self, word):
        return number_told([ord(sign) for sign in word])

    def test_numbers_of_8_and_9_digits(self):
        self.assertEqual(self.told("99999999"), 99999999)
        self.assertEqual(self.told("10000000"), 10000000)
        self.assertEqual(self.told("100000000"), NO_NUMBER)

    def test_numbers(self):
        self.assertEqual([self.told(word) for word in ("0", "7", "10", "909")], [0, 7, 10, 909])
        for word in ("", "00", "07", "00000000", "1 ", "a", "-1"):
            self.assertEqual(self.told(word), NO_NUMBER, word)


class Refusals(unittest.TestCase):
    def test_no_rate(self):
        self.assertEqual(last(tariff("01 0 0"), parcel()), [-3])
        self.assertEqual(last(tariff("01 0 0"), money(2, 1), parcel()), [-3])
        self.assertEqual(last(tariff("01 0 0"), money(2, 1), parcel(coin=2)), [1, 2, 4, 0])

    def test_no_rule_for_one_of_the_codes(self):
        self.assertEqual(last(*office(), parcel(item("020101"))), [-4])
        self.assertEqual(last(*office(), parcel(item(), item("020101"))), [-4])
        self.assertEqual(last(*office(), parcel(item("020101"), item())), [-4])

    def test_100_parcels_and_one_more(self):
        told = run(*office(FREE_OF_ALL), *[parcel()] * 101, back(100), parcel())
        self.assertEqual(told[3:103], [[number, 2, 4, 0] for number in range(1, 101)])
        self.assertEqual(told[103:], [[-8], [-6], [-8]])

    def test_parcels_sent_back_count(self):
        told = run(*office(), *[parcel()] * 100, back(1), parcel())
        self.assertEqual(told[-2:], [[0], [-8]])

    def test_order(self):
        full = office(FREE_OF_ALL) + [parcel()] * 100
        no_rule = declaration(item("020101"))
        no_rate = declaration(item("020101"), coin=2)
        wrong = declaration(item("02"), coin=2)
        self.assertEqual(last(*full, declare(wrong + " " * 1000)), [-1])
        self.assertEqual(last(*full, declare(wrong)), [-1004])
        self.assertEqual(last(*full, declare(no_rate)), [-3])
        self.assertEqual(last(*full, declare(no_rule)), [-4])
        self.assertEqual(last(*full, parcel()), [-8])

    def test_a_refusal_changes_nothing(self):
        refused = [declare("x" * 1001), declare("FROM 1"), parcel(coin=2), parcel(item("020101")),
                   parcel(item(), item("020101"))]
        told = run(*office(), parcel(), *refused, parcel(), pay(1, 100), back(3))
        self.assertEqual(told[3:], [[1, 2, 3, 100], [-1], [-1002], [-3], [-4], [-4], [2, 2, 3, 100], [100], [-4]])


class Taken(unittest.TestCase):
    def test_numbers_rise(self):
        told = run(*office(), parcel(), parcel(sender=9), parcel(item("020101")), parcel(receiver=9))
        self.assertEqual(told[3:], [[1, 2, 3, 100], [2, 2, 3, 100], [-4], [3, 2, 3, 100]])

    def test_free_origins(self):
        rules = "01 100 0 FREE 5 7\n02 100 0 LICENCE 3 FREE 5"
        for origin, answer in ((4, [1, 2, 3, 100]), (5, [1, 2, 4, 0]), (6, [1, 2, 3, 100]), (7, [1, 2, 4, 0]),
                               (57, [1, 2, 3, 100])):
            self.assertEqual(last(*office(rules), parcel(item(origin=origin))), answer)
        self.assertEqual(last(*office(rules), parcel(item("020101"), "LICENCE 3")), [1, 2, 4, 0])
        self.assertEqual(last(*office(rules), parcel(item("020101", origin=6), "LICENCE 3")), [1, 2, 3, 100])

    def test_free_of_duty_is_not_free_of_tax(self):
        self.assertEqual(last(*office("01 500 200 FREE 5"), parcel()), [1, 2, 3, 200])

    def test_barred_goods(self):
        rules = "01 100 0\n02 100 0 BARRED"
        self.assertEqual(last(*office(rules), parcel(item("020101"))), [1, 2, 1, 0])
        self.assertEqual(last(*office(rules), parcel(item(), item("020101"))), [1, 2, 1, 0])
        self.assertEqual(last(*office(rules), parcel(item("020101"), item())), [1, 2, 1, 0])

    def test_barred_goes_before_a_missing_licence(self):
        rules = "01 100 0 LICENCE 3\n02 100 0 BARRED"
        self.assertEqual(last(*office(rules), parcel(item(), item("020101"))), [1, 2, 1, 0])

    def test_licences(self):
        rules = "01 100 0 LICENCE 3\n02 100 0 LICENCE 30\n03 100 0"
        needs = [item("010101"), item("020101"), item("030101")]
        self.assertEqual(last(*office(rules), parcel(*needs)), [1, 2, 2, 0])
        self.assertEqual(last(*office(rules), parcel(*needs, "LICENCE 3")), [1, 2, 2, 0])
        self.assertEqual(last(*office(rules), parcel(*needs, "LICENCE 30")), [1, 2, 2, 0])
        self.assertEqual(last(*office(rules), parcel(*needs, "LICENCE 4", "LICENCE 31")), [1, 2, 2, 0])
        self.assertEqual(last(*office(rules), parcel(*needs, "LICENCE 3", "LICENCE 30")), [1, 2, 3, 300])
        self.assertEqual(last(*office(rules), parcel(*needs, "LICENCE 1", "LICENCE 3", "LICENCE 30")), [1, 2, 3, 300])

    def test_the_least_and_the_greatest_licence(self):
        for number in (1, 99):
            rules = f"01 100 0 LICENCE {number}"
            self.assertEqual(last(*office(rules), parcel()), [1, 2, 2, 0])
            self.assertEqual(last(*office(rules), parcel(item(), f"LICENCE {number}")), [1, 2, 3, 100])

    def test_licences_of_one_parcel_are_not_another_ones(self):
        rules = "01 100 0 LICENCE 3"
        told = run(*office(rules), parcel(item(), "LICENCE 3"), parcel(), licence(2, 3), parcel())
        self.assertEqual(told[3:], [[1, 2, 3, 100], [2, 2, 2, 0], [2, 2, 3, 100], [3, 2, 2, 0]])

    def test_the_rate_is_the_one_of_the_declarations_money(self):
        calls = office() + [money(2, 2000000), parcel(coin=2), parcel(receiver=3)]
        self.assertEqual(run(*calls)[4:], [[1, 2, 3, 200], [2, 2, 3, 100]])

    def test_a_parcel_keeps_its_rate(self):
        calls = office() + [parcel(), money(1, 3000000), parcel()]
        # The first parcel still counts 100, the second one 300.
        self.assertEqual(run(*calls)[3:], [[1, 2, 3, 100], [0], [2, 2, 3, 300]])

    def test_it_is_declared_today(self):
        calls = office(threshold=1500) + [day(7), parcel(), day(6), parcel()]
        self.assertEqual(run(*calls)[4:], [[1, 2, 4, 0], [13], [2, 2, 3, 200]])

    def test_a_new_office_has_no_parcels(self):
        calls = office() + [parcel(), begin(0), back(1), tariff("01 100 0"), money(1, 1000000), parcel()]
        self.assertEqual(run(*calls)[3:], [[1, 2, 3, 100], [0], [-4], [1], [0], [1, 2, 3, 100]])


if __name__ == "__main__":
    unittest.main()
