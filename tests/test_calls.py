"""The calls begin, money, day, licence, pay, inspect, back: answers, refusals and their order."""

import unittest

from tests.helper import (back, begin, day, in_each_state, inspect, item, last, licence, money, office, parcel, pay,
                          run, tariff)

# Goods: 01 ordinary, 02 barred, 03 and 04 with a licence, 05 free of all, 06 free from origin 5.
RULES = "01 100 0\n02 100 0 BARRED\n03 100 0 LICENCE 3\n04 100 0 LICENCE 4\n05 0 0\n06 300 0 FREE 5"


def states():
    return in_each_state(RULES)


class States(unittest.TestCase):
    def test_states(self):
        self.assertEqual(run(*states())[3:],
                         [[1, 2, 1, 0], [2, 2, 2, 0], [3, 2, 3, 100], [4, 2, 4, 0], [5, 2, 3, 100], [0]])


class Begin(unittest.TestCase):
    def test_range(self):
        self.assertEqual(run(begin(0), begin(1), begin(1000000)), [[0]] * 3)
        self.assertEqual(run(begin(-1), begin(1000001)), [[-1]] * 2)

    def test_all_is_new(self):
        used = office(RULES, threshold=7) + [money(2, 5), day(9), parcel()]
        self.assertEqual(last(*used, begin(0), day(0)), [0])
        self.assertEqual(last(*used, begin(0), back(1)), [-4])
        self.assertEqual(last(*used, begin(0), tariff(RULES), parcel()), [-3])
        self.assertEqual(last(*used, begin(0), tariff(RULES), parcel(coin=2)), [-3])
        self.assertEqual(last(*used, begin(0), money(1, 1), parcel()), [-4])

    def test_the_threshold_is_the_last_one(self):
        again = [tariff(RULES), money(1, 1000000), parcel()]
        self.assertEqual(last(begin(1000), begin(999), *again), [1, 2, 3, 100])
        self.assertEqual(last(begin(999), begin(1000), *again), [1, 2, 4, 0])

    def test_without_it_the_threshold_is_0(self):
        self.assertEqual(last(tariff("01 1000 0"), money(1, 1000000), parcel(item(value="0.01"))), [1, 2, 3, 1])

    def test_a_refusal_changes_nothing(self):
        told = run(*office(RULES, threshold=1000), day(3), parcel(), begin(1000001), begin(-1), day(0), parcel())
        self.assertEqual(told[3:], [[3], [1, 2, 4, 0], [-1], [-1], [3], [2, 2, 3, 200]])


class Money(unittest.TestCase):
    def test_range(self):
        self.assertEqual(run(money(1, 1), money(9, 1), money(1, 100000000)), [[0]] * 3)
        self.assertEqual(run(money(0, 1), money(10, 1), money(1, 0), money(1, 100000001), money(-1, -1)), [[-1]] * 5)

    def test_a_refusal_changes_nothing(self):
        told = run(*office(RULES), money(1, 0), money(1, 100000001), money(0, 5), money(10, 5), parcel())
        self.assertEqual(told[3:], [[-1]] * 4 + [[1, 2, 3, 100]])
        self.assertEqual(last(tariff(RULES), money(1, 100000001), parcel()), [-3])

    def test_the_rate_from_now_on(self):
        self.assertEqual(last(*office(RULES), money(1, 2000000), parcel()), [1, 2, 3, 200])

    def test_each_money_has_its_own(self):
        rates = [money(number, number * 1000000) for number in range(1, 10)]
        told = run(tariff(RULES), *rates, *[parcel(coin=number, sender=number) for number in range(1, 10)])
        self.assertEqual(told[10:], [[number, 2, 3, number * 100] for number in range(1, 10)])


class Day(unittest.TestCase):
    def test_range(self):
        self.assertEqual(run(day(0), day(1), day(1000), day(-1), day(1001), day(0)),
                         [[0], [1], [1001], [-1], [-1], [1001]])

    def test_the_last_day(self):
        told = run(*[day(1000)] * 100, day(1), day(1000), day(0), day(1001))
        self.assertEqual(told[99:], [[100000], [-8], [-8], [100000], [-1]])
        told = run(*[day(1000)] * 99, day(999), day(2), day(1), day(1))
        self.assertEqual(told[99:], [[99999], [-8], [100000], [-8]])


class Licence(unittest.TestCase):
    def test_ordinary(self):
        self.assertEqual(last(*states(), licence(2, 3)), [2, 2, 3, 100])

    def test_a_licence_that_is_of_no_use(self):
        self.assertEqual(run(*states(), licence(2, 4), licence(2, 3))[-2:], [[2, 2, 2, 0], [2, 2, 3, 100]])

    def test_two_licences_are_missing(self):
        both = parcel(item("030101"), item("040101"), item("010101"))
        told = run(*office(RULES), both, licence(1, 4), licence(1, 3))
        self.assertEqual(told[3:], [[1, 2, 2, 0], [1, 2, 2, 0], [1, 2, 3, 300]])

    def test_released_at_once(self):
        told = run(*office(RULES, threshold=1000), parcel(item("030101")), licence(1, 3), licence(1, 4))
        self.assertEqual(told[3:], [[1, 2, 2, 0], [1, 2, 4, 0], [-6]])

    def test_range_of_the_number(self):
        self.assertEqual(run(*states(), licence(2, 0), licence(2, 100), licence(2, -3))[-3:], [[-1]] * 3)
        self.assertEqual(run(*states(), licence(2, 1), licence(2, 99))[-2:], [[2, 2, 2, 0]] * 2)

    def test_parcels_that_are_none(self):
        self.assertEqual(run(*states(), licence(0, 3), licence(101, 3), licence(6, 3), licence(100, 3))[-4:],
                         [[-1], [-1], [-4], [-4]])

    def test_not_now(self):
        for number in (1, 3, 4, 5):
            self.assertEqual(last(*states(), licence(number, 3)), [-6])

    def test_it_has_it(self):
        self.assertEqual(run(*states(), licence(2, 9), licence(2, 8), licence(2, 8))[-3:], [[-5], [2, 2, 2, 0], [-5]])
        told = run(*office(RULES), parcel(item("030101"), "LICENCE 1", "LICENCE 9"), licence(1, 9), licence(1, 1))
        self.assertEqual(told[-2:], [[-5], [-5]])

    def test_order(self):
        told = run(*states(), licence(6, 0), licence(101, 3), licence(6, 3), licence(1, 100), licence(2, 3),
                   licence(2, 3))
        self.assertEqual(told[-6:], [[-1], [-1], [-4], [-1], [2, 2, 3, 100], [-6]])

    def test_a_refusal_changes_nothing(self):
        refused = [licence(2, 100), licence(6, 3), licence(3, 3), licence(1, 3), licence(4, 3), licence(5, 3)]
        told = run(*states(), *refused, licence(2, 4), licence(2, 4), licence(2, 3), pay(3, 100))
        self.assertEqual(told[-4:], [[2, 2, 2, 0], [-5], [2, 2, 3, 100], [100]])


class Pay(unittest.TestCase):
    def test_ordinary(self):
        self.assertEqual(run(*states(), pay(3, 100), pay(3, 100), back(3))[-3:], [[100], [-6], [-6]])

    def test_range_of_the_amount(self):
        told = run(*states(), pay(3, 0), pay(3, -100), pay(3, 1000000000000001), pay(3, 1), pay(3, 1000000000000000))
        self.assertEqual(told[-5:], [[-1], [-1], [-1], [-7], [-7]])

    def test_the_least(self):
        self.assertEqual(run(*office(RULES), parcel(item(value="0.10")), pay(1, 1))[-2:], [[1, 2, 3, 1], [1]])

    def test_parcels_that_are_none(self):
        self.assertEqual(run(*states(), pay(0, 100), pay(101, 100), pay(6, 100), pay(100, 100))[-4:],
                         [[-1], [-1], [-4], [-4]])

    def test_not_now(self):
        for number in (1, 2, 4, 5):
            self.assertEqual(last(*states(), pay(number, 100)), [-6])

    def test_another_amount(self):
        self.assertEqual(run(*states(), pay(3, 99), pay(3, 101), pay(3, 100))[-3:], [[-7], [-7], [100]])

    def test_order(self):
        told = run(*states(), pay(6, 0), pay(101, 100), pay(6, 100), pay(1, 0), pay(1, 7), pay(4, 1000000000000001))
        self.assertEqual(told[-6:], [[-1], [-1], [-4], [-1], [-6], [-1]])

    def test_a_refusal_changes_nothing(self):
        told = run(*states(), pay(3, 99), pay(3, 0), pay(2, 100), pay(1, 100), licence(2, 3), pay(3, 100))
        self.assertEqual(told[-2:], [[2, 2, 3, 100], [100]])

    def test_what_was_paid_stays_charged(self):
        told = run(*office(RULES), parcel(), pay(1, 100), parcel(item(value="5.00")))
        self.assertEqual(told[-2:], [[100], [2, 2, 3, 50]])


class Inspect(unittest.TestCase):
    def test_a_value(self):
        told = run(*states(), inspect(3, 1, 2500, "010101"), pay(3, 100), pay(3, 250))
        self.assertEqual(told[-3:], [[3, 2, 3, 250], [-7], [250]])

    def test_a_code(self):
        self.assertEqual(last(*states(), inspect(3, 1, 1000, "020101")), [3, 2, 1, 0])
        self.assertEqual(last(*states(), inspect(3, 1, 1000, "030101")), [3, 2, 2, 0])
        self.assertEqual(last(*states(), inspect(3, 1, 1000, "050101")), [3, 2, 4, 0])

    def test_from_each_state_where_it_may_be(self):
        for number in (1, 2, 3):
            self.assertEqual(last(*states(), inspect(number, 1, 1000, "020101")), [number, 2, 1, 0])
            self.assertEqual(last(*states(), inspect(number, 1, 1000, "030101")), [number, 2, 2, 0])
            self.assertEqual(last(*states(), inspect(number, 1, 1000, "010101")), [number, 2, 3, 100])
            self.assertEqual(last(*states(), inspect(number, 1, 1000, "050101")), [number, 2, 4, 0])

    def test_a_charge_is_gone_with_the_state(self):
        told = run(*office(RULES), parcel(), inspect(1, 1, 1000, "030101"), parcel(), licence(1, 3))
        self.assertEqual(told[3:], [[1, 2, 3, 100], [1, 2, 2, 0], [2, 2, 3, 100], [1, 2, 3, 100]])
        told = run(*office(RULES), parcel(), inspect(1, 1, 1000, "020101"), parcel(), inspect(1, 1, 10, "010101"))
        self.assertEqual(told[3:], [[1, 2, 3, 100], [1, 2, 1, 0], [2, 2, 3, 100], [1, 2, 3, 1]])

    def test_its_licences_stay(self):
        told = run(*office(RULES), parcel(item(), "LICENCE 3"), inspect(1, 1, 1000, "030101"),
                   inspect(1, 1, 1000, "040101"), licence(1, 3), licence(1, 4))
        self.assertEqual(told[4:], [[1, 2, 3, 100], [1, 2, 2, 0], [-5], [1, 2, 3, 100]])

    def test_its_origin_stays(self):
        self.assertEqual(last(*states(), inspect(3, 1, 1000, "060101")), [3, 2, 4, 0])
        told = run(*office(RULES), parcel(item("060101", origin=6)), inspect(1, 1, 2000, "060101"))
        self.assertEqual(told[3:], [[1, 2, 3, 300], [1, 2, 3, 600]])
        told = run(*office(RULES), parcel(item(origin=5), item(origin=6)), inspect(1, 2, 1000, "060101"),
                   inspect(1, 1, 1000, "060101"))
        self.assertEqual(told[3:], [[1, 2, 3, 200], [1, 2, 3, 400], [1, 2, 3, 300]])

    def test_the_longest_rule(self):
        rules = "01 100 0\n0102 200 0\n010203 300 0"
        for code, charged in (("010203", 300), ("010204", 200), ("010303", 100)):
            self.assertEqual(last(*office(rules), parcel(), inspect(1, 1, 1000, code)), [1, 2, 3, charged])

    def test_only_that_good(self):
        goods = [item(value="1.00"), item(value="2.00"), item(value="3.00")]
        told = run(*office(RULES), parcel(*goods), inspect(1, 2, 1000, "010101"), inspect(1, 3, 2000, "010101"),
                   inspect(1, 1, 10, "010101"))
        self.assertEqual(told[3:], [[1, 2, 3, 60], [1, 2, 3, 140], [1, 2, 3, 310], [1, 2, 3, 301]])

    def test_todays_tariff(self):
        # The good that is inspected has the new duty, the other one keeps what it had.
        told = run(*office(RULES), parcel(item(), item()), tariff("01 500 0"), inspect(1, 1, 1000, "010101"))
        self.assertEqual(told[3:], [[1, 2, 3, 200], [1], [1, 2, 3, 600]])

    def test_the_parcels_rate_stays(self):
        told = run(*office(RULES), parcel(), money(1, 5000000), inspect(1, 1, 2000, "010101"))
        self.assertEqual(told[3:], [[1, 2, 3, 100], [0], [1, 2, 3, 200]])

    def test_tax_and_barred_are_taken_too(self):
        rules = "01 100 500\n02 100 0 BARRED"
        told = run(*office(rules), parcel(item("020101")), inspect(1, 1, 1000, "010101"))
        self.assertEqual(told[3:], [[1, 2, 1, 0], [1, 2, 3, 650]])

    def test_range_of_good_and_value(self):
        for good in (0, 21, -1):
            self.assertEqual(last(*states(), inspect(3, good, 1000, "010101")), [-1])
        for value in (0, 100000001, -1):
            self.assertEqual(last(*states(), inspect(3, 1, value, "010101")), [-1])
        self.assertEqual(last(*states(), inspect(3, 1, 1, "010101")), [3, 2, 4, 0])
        self.assertEqual(last(*states(), inspect(3, 1, 100000000, "010101")), [3, 2, 3, 10000000])

    def test_no_code(self):
        for code in ("", "01", "0101", "01010", "0101011", "01010101", "01010a", "01010/", "01010:", " 010101",
                     "010101 ", "010101\n", "abcdef", [255] * 6, [0] * 6, "0" * 5000):
            self.assertEqual(last(*states(), inspect(3, 1, 1000, code)), [-2])

    def test_parcels_that_are_none(self):
        for number, answer in ((0, -1), (101, -1), (-1, -1), (6, -4), (100, -4)):
            self.assertEqual(last(*states(), inspect(number, 1, 1000, "010101")), [answer])

    def test_no_such_good(self):
        self.assertEqual(last(*states(), inspect(3, 2, 1000, "010101")), [-4])
        self.assertEqual(last(*states(), inspect(3, 20, 1000, "010101")), [-4])
        told = run(*office(RULES), parcel(*[item()] * 20), inspect(1, 20, 2000, "010101"))
        self.assertEqual(told[3:], [[1, 2, 3, 2000], [1, 2, 3, 2100]])

    def test_not_now(self):
        for number in (4, 5):
            self.assertEqual(last(*states(), inspect(number, 1, 1000, "010101")), [-6])

    def test_no_rule(self):
        self.assertEqual(last(*states(), inspect(3, 1, 1000, "070101")), [-4])

    def test_order(self):
        for arguments, answer in (((101, 0, 1, "x"), -1), ((101, 1, 0, "x"), -1), ((6, 21, 1, "x"), -1),
                                  ((101, 1, 1, "x"), -2), ((6, 1, 1, "x"), -2), ((4, 2, 1, "x"), -2),
                                  ((101, 2, 1, "070101"), -1), ((6, 2, 1, "070101"), -4),
                                  ((4, 2, 1, "070101"), -4), ((4, 1, 1, "070101"), -6), ((3, 1, 1, "070101"), -4)):
            self.assertEqual(last(*states(), inspect(*arguments)), [answer], arguments)

    def test_a_refusal_changes_nothing(self):
        refused = [inspect(3, 21, 5, "050101"), inspect(3, 1, 0, "050101"), inspect(3, 1, 5, "05"),
                   inspect(3, 2, 5, "050101"), inspect(3, 1, 5, "070101"), inspect(4, 1, 5, "010101"),
                   inspect(6, 1, 5, "050101")]
        told = run(*states(), *refused, pay(3, 100), licence(2, 3))
        self.assertEqual(told[-2:], [[100], [2, 2, 3, 100]])


class Back(unittest.TestCase):
    def test_from_each_state_where_it_may_be(self):
        for number in (1, 2, 3):
            self.assertEqual(run(*states(), back(number), back(number))[-2:], [[0], [-6]])

    def test_not_now(self):
        for number in (4, 5):
            self.assertEqual(last(*states(), back(number)), [-6])
        self.assertEqual(run(*states(), pay(3, 100), back(3))[-2:], [[100], [-6]])

    def test_parcels_that_are_none(self):
        self.assertEqual(run(*states(), back(0), back(101), back(-1), back(6), back(100))[-5:],
                         [[-1], [-1], [-1], [-4], [-4]])

    def test_nothing_more_can_be_done_with_it(self):
        told = run(*states(), back(3), back(2), pay(3, 100), licence(2, 3), inspect(3, 1, 5, "010101"))
        self.assertEqual(told[-3:], [[-6]] * 3)

    def test_it_is_charged_0(self):
        told = run(*office(RULES), parcel(), back(1), parcel())
        self.assertEqual(told[3:], [[1, 2, 3, 100], [0], [2, 2, 3, 100]])

    def test_a_refusal_changes_nothing(self):
        # The released parcel still counts in its group.
        told = run(*office(RULES, threshold=1000), parcel(), back(1), parcel())
        self.assertEqual(told[3:], [[1, 2, 4, 0], [-6], [2, 2, 3, 200]])


if __name__ == "__main__":
    unittest.main()
