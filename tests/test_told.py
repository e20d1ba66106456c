"""The calls parcel, good, group and counts: what they tell, their refusals and the order of these."""

import unittest

from tests.helper import (back, begin, counts, day, group, in_each_state, inspect, item, last, licence, money, office,
                          parcel, pay, rows, run, settle, tariff, tell_good, tell_parcel)

RULES = "01 100 50\n0102 7 8 LICENCE 3 FREE 4 5\n02 1 2 BARRED\n05 0 0"


def code(text):
    return [ord(sign) for sign in text]


def parcel_rows(number, *calls):
    """What the call parcel tells behind other calls, taken apart."""
    return rows(last(*calls, tell_parcel(number)))


def good_rows(number, good, *calls):
    return rows(last(*calls, tell_good(number, good)))


def states():
    return in_each_state(RULES, licensed="010203")


class Parcel(unittest.TestCase):
    def test_the_whole_answer(self):
        calls = office("01 100 50", rate=123) + [day(9), parcel(item(), "LICENCE 4", "LICENCE 30", sender=77,
                                                                receiver=9999)]
        # Worth 0.123 hundredths, duty 0.0123, tax 0.006765.
        self.assertEqual(last(*calls, tell_parcel(1)), [4, 6, 77, 9999, 9, 123, 1, 0, 2, 4, 30, 2, 0, 123000000000,
                                                        2, 0, 19065000000, 1, 1])

    def test_each_state(self):
        told = run(*states(), *[tell_parcel(number) for number in range(1, 6)])
        self.assertEqual([rows(answer)[:2] for answer in told[-5:]], [
            [1, [1, 11, 0, 1000000, 1, 0]], [2, [1, 12, 0, 1000000, 1, 0]], [3, [1, 13, 0, 1000000, 1, 155]],
            [4, [1, 14, 0, 1000000, 1, 0]], [5, [1, 15, 0, 1000000, 1, 0]]])

    def test_worths_and_dues_in_each_state(self):
        told = run(*states(), *[tell_parcel(number) for number in range(1, 6)])
        # Of 1000: duty 1 and tax 2.002; tax 8 alone; duty 100 and tax 55; nothing; as the third one.
        self.assertEqual([rows(answer)[3:] for answer in told[-5:]], [
            [[1000, 0], [3, 2000000000], [1]], [[1000, 0], [8, 0], [2]], [[1000, 0], [155, 0], [3]],
            [[1000, 0], [0, 0], [4]], [[1000, 0], [155, 0], [5]]])

    def test_paid(self):
        self.assertEqual(parcel_rows(3, *states(), pay(3, 155))[:2], [4, [1, 13, 0, 1000000, 1, 155]])

    def test_no_licences(self):
        self.assertEqual(last(*office(), parcel(), tell_parcel(1)),
                         [3, 6, 1, 2, 0, 1000000, 1, 100, 0, 2, 1000, 0, 2, 100, 0, 1, 1])

    def test_licences_in_the_order_told(self):
        calls = office("01 0 0 LICENCE 2") + [parcel(item(), "LICENCE 4", "LICENCE 30")]
        calls += [licence(1, number) for number in (9, 3, 9, 100, 2)]
        self.assertEqual(parcel_rows(1, *calls)[2], [4, 30, 9, 3, 2])

    def test_many_licences(self):
        lines = [f"LICENCE {number}" for number in range(20, 90)]
        self.assertEqual(parcel_rows(1, *office(), parcel(item(), *lines))[2], list(range(20, 90)))

    def test_how_many_goods(self):
        for how_many in (1, 2, 20):
            told = parcel_rows(1, *office(), parcel(*[item()] * how_many))
            self.assertEqual([told[1][4], told[3], told[4]], [how_many, [how_many * 1000, 0], [how_many * 100, 0]])

    def test_parts(self):
        # Of 0.03 and 0.01 at this rate: worth 3.703701 and 1.234567, with duty 333 and tax 7 thousandths.
        calls = office("01 333 7", rate=1234567) + [parcel(item(value="0.03"), item(value="0.01"))]
        self.assertEqual(parcel_rows(1, *calls)[3:5], [[4, 938268000000], [1, 690522222708]])

    def test_less_than_a_hundredth_and_just_one(self):
        self.assertEqual(parcel_rows(1, *office("01 1000 0", rate=999999), parcel(item(value="0.01")))[3:5],
                         [[0, 999999000000], [0, 999999000000]])
        self.assertEqual(parcel_rows(1, *office("01 1 0"), parcel(item(value="10.00")))[3:5], [[1000, 0], [1, 0]])

    def test_the_last_part_counts(self):
        # At rate 1 a hundredth is worth 1000000 parts: duty 1000, tax 1001.
        self.assertEqual(parcel_rows(1, *office("01 1 1", rate=1), parcel(item(value="0.01")))[3:5],
                         [[0, 1000000], [0, 2001]])

    def test_the_greatest(self):
        calls = office("01 1000 1000", rate=100000000) + [parcel(*[item(value="1000000.00")] * 20)]
        self.assertEqual(parcel_rows(1, *calls)[1:], [[1, 2, 0, 100000000, 20, 600000000000], [],
                                                      [200000000000, 0], [600000000000, 0], [1]])

    def test_day_and_rate_are_those_of_its_declaration(self):
        calls = office() + [day(3), parcel(), day(10), money(1, 5), begin(-1)]
        self.assertEqual(parcel_rows(1, *calls)[1], [1, 2, 3, 1000000, 1, 100])

    def test_a_goods_inspection_is_told(self):
        told = parcel_rows(1, *office("01 100 0"), parcel(item(), item()), inspect(1, 2, 5, "010101"))
        self.assertEqual(told, [3, [1, 2, 0, 1000000, 2, 100], [], [1005, 0], [100, 500000000000], [1]])

    def test_goods_keep_what_they_had_under_an_older_tariff(self):
        told = parcel_rows(1, *office("01 100 0"), parcel(), tariff("01 900 900 BARRED"))
        self.assertEqual(told, [3, [1, 2, 0, 1000000, 1, 100], [], [1000, 0], [100, 0], [1]])

    def test_parcels_that_are_none(self):
        self.assertEqual(run(*states(), *[tell_parcel(number) for number in (0, -1, 101, 6, 100)])[-5:],
                         [[-1], [-1], [-1], [-4], [-4]])
        self.assertEqual(run(tell_parcel(1), tell_parcel(0), tell_parcel(101)), [[-4], [-1], [-1]])

    def test_parcel_100(self):
        told = run(*office("01 0 0"), *[parcel()] * 99, tell_parcel(100), parcel(), tell_parcel(100), parcel(),
                   tell_parcel(101))
        self.assertEqual([told[102], rows(told[104])[-1], told[105], told[106]], [[-4], [100], [-8], [-1]])


class Good(unittest.TestCase):
    def test_the_whole_answer(self):
        calls = office("01 333 7 LICENCE 2", rate=1234567) + [parcel(item("010203", "0.03", 98))]
        self.assertEqual(last(*calls, tell_good(1, 1)), [
            3, 6, 48, 49, 48, 50, 48, 51, 5, 98, 333, 7, 0, 2, 2, 3, 703701000000, 2, 1, 233332433000,
            2, 0, 34559234031])

    def test_goods_of_several_rules(self):
        lines = [item("010101", "10.00", 5), item("010203", "0.01", 5), item("010203", "1.00", 6),
                 item("020101", "1000000.00", 99)]
        calls = office(RULES) + [parcel(*lines)]
        self.assertEqual([good_rows(1, good, *calls)[:3] for good in (1, 2, 3, 4)], [
            [1000, code("010101"), [5, 100, 50, 0, 0]], [1, code("010203"), [5, 0, 8, 0, 3]],
            [100, code("010203"), [6, 7, 8, 0, 3]], [100000000, code("020101"), [99, 1, 2, 1, 0]]])

    def test_worth_duty_and_tax(self):
        self.assertEqual(good_rows(1, 1, *office(RULES), parcel())[3:], [[1000, 0], [100, 0], [55, 0]])
        # Free of duty it is taxed by its worth alone.
        self.assertEqual(good_rows(1, 1, *office("01 100 50 FREE 5"), parcel())[3:], [[1000, 0], [0, 0], [50, 0]])
        self.assertEqual(good_rows(1, 1, *office("01 0 0"), parcel())[3:], [[1000, 0], [0, 0], [0, 0]])

    def test_the_least_and_the_greatest(self):
        calls = office("01 1 1", rate=1) + [parcel(item(value="0.01", origin=1))]
        self.assertEqual(good_rows(1, 1, *calls)[2:], [[1, 1, 1, 0, 0], [0, 1000000], [0, 1000], [0, 1001]])
        calls = office("01 1000 1000", rate=100000000) + [parcel(item(value="1000000.00", origin=99))]
        self.assertEqual(good_rows(1, 1, *calls)[2:], [[99, 1000, 1000, 0, 0], [10000000000, 0], [10000000000, 0],
                                                       [20000000000, 0]])

    def test_great_numbers_to_the_last_part(self):
        calls = office("01 999 999", rate=99999999) + [parcel(item(value="999999.99"))]
        # Worth 9999999800.000001, duty 9989999800.200000999, and 999 thousandths of both: 19970009600.599801997001.
        self.assertEqual(good_rows(1, 1, *calls)[3:], [[9999999800, 1000000], [9989999800, 200000999000],
                                                       [19970009600, 599801997001]])

    def test_inspected(self):
        told = good_rows(1, 2, *office(RULES), parcel(item(), item(origin=4)), inspect(1, 2, 55, "010299"))
        self.assertEqual(told, [55, code("010299"), [4, 0, 8, 0, 3], [55, 0], [0, 0], [0, 440000000000]])

    def test_inspected_by_todays_tariff_and_the_others_keep_what_they_had(self):
        calls = office(RULES) + [parcel(item(), item()), tariff("01 1 2 LICENCE 3"), inspect(1, 1, 1000, "010101")]
        self.assertEqual(good_rows(1, 1, *calls)[2], [5, 1, 2, 0, 3])
        self.assertEqual(good_rows(1, 2, *calls)[2], [5, 100, 50, 0, 0])

    def test_a_new_tariff_changes_no_good(self):
        calls = office(RULES) + [parcel(item("010203"), item("020101"))]
        for text in ("", "01 9 9 BARRED\n02 9 9", "010203 9 9 LICENCE 1 FREE 5"):
            self.assertEqual(run(*calls, tariff(text), tell_good(1, 1), tell_good(1, 2))[-2:],
                             run(*calls, tell_good(1, 1), tell_good(1, 2))[-2:])

    def test_parts_by_the_parcels_own_rate(self):
        calls = office(RULES) + [parcel(), money(1, 7)]
        self.assertEqual(good_rows(1, 1, *calls)[3:], [[1000, 0], [100, 0], [55, 0]])

    def test_good_20(self):
        goods = [item(value=f"{place}.00") for place in range(1, 21)]
        self.assertEqual(last(*office(), parcel(*goods), tell_good(1, 20))[0], 2000)
        self.assertEqual(last(*office(), parcel(*goods[:19]), tell_good(1, 20)), [-4])

    def test_no_such_good(self):
        self.assertEqual(run(*states(), tell_good(3, 2), tell_good(3, 20))[-2:], [[-4], [-4]])

    def test_range_of_good(self):
        self.assertEqual(run(*states(), tell_good(3, 0), tell_good(3, 21), tell_good(3, -1))[-3:], [[-1]] * 3)

    def test_parcels_that_are_none(self):
        self.assertEqual(run(*states(), *[tell_good(number, 1) for number in (0, -1, 101, 6, 100)])[-5:],
                         [[-1], [-1], [-1], [-4], [-4]])

    def test_order(self):
        for arguments, answer in (((101, 21), -1), ((6, 21), -1), ((6, 0), -1), ((101, 20), -1), ((6, 20), -4),
                                  ((3, 20), -4)):
            self.assertEqual(last(*states(), tell_good(*arguments)), [answer], arguments)


class Group(unittest.TestCase):
    def test_no_parcels(self):
        self.assertEqual(last(group()), [0, 2, 0, 0, 2, 0, 0])

    def test_ordinary(self):
        calls = office("01 100 0", threshold=1500) + [parcel(), parcel(item(value="5.01")), pay(2, 150)]
        self.assertEqual(last(*calls, group()), [2, 2, 1501, 0, 2, 150, 150])

    def test_states(self):
        told = run(*states(), *[group(1, receiver) for receiver in range(11, 16)])
        self.assertEqual(told[-5:], [[0, 2, 0, 0, 2, 0, 0], [0, 2, 0, 0, 2, 0, 0], [1, 2, 1000, 0, 2, 155, 155],
                                     [1, 2, 1000, 0, 2, 0, 0], [0, 2, 0, 0, 2, 0, 0]])

    def test_parcels_of_all_states_together(self):
        lines = [item("020101"), item("010203"), item("010101"), item("050101"), item("010101")]
        calls = office(RULES) + [parcel(line) for line in lines] + [back(5)]
        self.assertEqual(last(*calls, group()), [2, 2, 2000, 0, 2, 155, 155])

    def test_gathered_in_parts(self):
        calls = office("01 333 7", rate=1234567) + [parcel(item(value="0.03")), parcel(item(value="0.01"))]
        self.assertEqual(last(*calls, group()), [2, 2, 4, 938268000000, 2, 1, 1])

    def test_the_threshold(self):
        for threshold, rate, owed in ((1000, 1000000, 0), (999, 1000000, 100), (1000, 1000001, 100),
                                      (1000000, 1000000, 0), (0, 1000000, 100)):
            told = rows(last(*office(threshold=threshold, rate=rate), parcel(), group()))
            self.assertEqual(told[2], [owed, owed])

    def test_owes_more_than_it_was_charged(self):
        calls = office(threshold=1500) + [parcel(), parcel(), parcel(), back(2)]
        self.assertEqual(last(*calls, group()), [2, 2, 2000, 0, 2, 200, 100])

    def test_charged_below_0(self):
        calls = office(threshold=1500) + [parcel(item(value="20.00")), parcel(), inspect(1, 1, 500, "010101")]
        told = run(*calls, group(), settle(1, 2, 0), back(2), group())
        self.assertEqual([told[-4], told[-1]], [[2, 2, 1500, 0, 2, 0, 100], [1, 2, 500, 0, 2, 0, -100]])

    def test_weeks(self):
        calls = office() + [day(6), parcel(), day(1), parcel(), day(6), parcel(), day(1), parcel()]
        told = run(*calls, *[group(week=week) for week in range(4)])
        self.assertEqual([answer[0] for answer in told[-4:]], [1, 2, 1, 0])

    def test_senders_and_receivers(self):
        told = run(*office(), parcel(), group(1, 2), group(2, 1), group(1, 1), group(2, 2))
        self.assertEqual([answer[0] for answer in told[-4:]], [1, 0, 0, 0])

    def test_the_last_week(self):
        told = run(*office(), *[day(1000)] * 100, parcel(sender=9999, receiver=9999), group(9999, 9999, 14285),
                   group(9999, 9999, 14284), group(9999, 9999, 14286))
        self.assertEqual([answer[0] for answer in told[-3:]], [1, 0, 0])

    def test_the_greatest(self):
        calls = office("01 1000 1000", rate=100000000) + [parcel(*[item(value="1000000.00")] * 20)] * 20
        self.assertEqual(last(*calls, group()), [20, 2, 4000000000000, 0, 2, 12000000000000, 12000000000000])

    def test_ranges(self):
        for arguments in ((1, 1, 0), (9999, 1, 0), (1, 9999, 0), (1, 1, 20000)):
            self.assertEqual(last(group(*arguments)), [0, 2, 0, 0, 2, 0, 0], arguments)
        for arguments in ((0, 1, 0), (10000, 1, 0), (-1, 1, 0), (1, 0, 0), (1, 10000, 0), (1, -1, 0), (1, 1, -1),
                          (1, 1, 20001)):
            self.assertEqual(last(group(*arguments)), [-1], arguments)


class Counts(unittest.TestCase):
    def test_at_the_beginning(self):
        self.assertEqual(last(counts()), [0, 5, 0, 0, 0, 0, 0])

    def test_after_begin(self):
        self.assertEqual(last(begin(1000000), counts()), [0, 5, 1000000, 0, 0, 0, 0])
        used = office(threshold=1500) + [day(3), parcel(), parcel(), parcel(), back(2), settle(1, 2, 0)]
        self.assertEqual(run(*used, counts(), begin(7), counts())[-3:],
                         [[3, 5, 1500, 1, 1, 3, 1], [0], [0, 5, 7, 0, 0, 0, 0]])

    def test_days(self):
        self.assertEqual(run(day(8), counts(), day(0), day(-1), counts())[1::3], [[8, 5, 0, 0, 0, 0, 0]] * 2)

    def test_rules(self):
        told = run(tariff("01 1 1\n\n02 1 1"), counts(), tariff("x"), counts(), tariff("03 1 1"), counts(), tariff(""),
                   counts())
        self.assertEqual([answer[3] for answer in told[1::2]], [2, 2, 1, 0])

    def test_moneys_with_a_rate(self):
        told = run(money(3, 5), counts(), money(3, 6), counts(), money(9, 1), counts(), money(0, 1), money(1, 0),
                   counts())
        self.assertEqual([answer[4] for answer in told if len(answer) > 1], [1, 1, 2, 2])
        self.assertEqual(last(*[money(number, 1) for number in range(1, 10)], counts()), [0, 5, 0, 0, 9, 0, 0])

    def test_parcels(self):
        told = run(*office(RULES), parcel(), counts(), parcel(item("020101")), counts(), parcel(item("090101")),
                   counts(), back(1), counts())
        self.assertEqual([rows(answer)[1] for answer in told[4::2]], [[0, 4, 1, 1, 0], [0, 4, 1, 2, 0],
                                                                      [0, 4, 1, 2, 0], [0, 4, 1, 2, 0]])

    def test_settlings(self):
        small = parcel(item(value="0.66"))
        told = run(*office(), small, small, back(1), counts(), settle(1, 2, 0), counts(), settle(1, 2, 0), counts(),
                   back(2), settle(1, 2, 0), counts())
        self.assertEqual([answer[6] for answer in told if len(answer) == 7], [0, 1, 1, 2])


if __name__ == "__main__":
    unittest.main()
