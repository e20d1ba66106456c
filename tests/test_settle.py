"""The call settle: what a group owes and was charged, and how settlings count from then on."""

import unittest

from tests.helper import (back, begin, counts, day, group, inspect, item, last, licence, office, parcel, pay, rows, run,
                          settle, tell_parcel)

RULES = "01 100 0\n02 100 0 BARRED\n03 100 0 LICENCE 3"


def charged_too_little():
    """The second parcel was charged for the first one too, and is sent back: 200 are owed, 100 charged."""
    return office(RULES, threshold=1500) + [parcel(), parcel(), parcel(), back(2)]


def charged_too_much():
    """The first parcel is put right to 5.00: then 15.00 are free in all, and the second one was charged 100."""
    first = [parcel(item(value="20.00")), parcel(), inspect(1, 1, 500, "010101")]
    return office(RULES, threshold=1500) + first


def a_hundredth_too_much():
    """Two parcels of 6.6 hundredths' duty were charged 6 and 7, and the first one is sent back."""
    return office(RULES) + [parcel(item(value="0.66")), parcel(item(value="0.66")), back(1)]


def owed_and_charged(answer):
    """What a group's answer tells in its last row."""
    return rows(answer)[-1]


class Amounts(unittest.TestCase):
    def test_owes_more_after_back(self):
        told = run(*charged_too_little(), group(), settle(1, 2, 0), group())
        self.assertEqual(told[-3:], [[2, 2, 2000, 0, 2, 200, 100], [1, 1, 100], [2, 2, 2000, 0, 2, 200, 200]])

    def test_owes_less_after_back(self):
        told = run(*a_hundredth_too_much(), group(), settle(1, 2, 0), group())
        self.assertEqual(told[-3:], [[1, 2, 66, 0, 2, 6, 7], [2, 1, -1], [1, 2, 66, 0, 2, 6, 6]])

    def test_owes_less_after_inspect(self):
        told = run(*charged_too_much(), group(), settle(1, 2, 0), group())
        self.assertEqual(told[-3:], [[2, 2, 1500, 0, 2, 0, 100], [2, 1, -100], [2, 2, 1500, 0, 2, 0, 0]])

    def test_owes_more_after_inspect(self):
        # The first parcel was charged 200 for two, and is barred now: the second and the third one owe 200.
        calls = office(RULES, threshold=1500)
        calls += [parcel(), parcel(), parcel(), inspect(2, 1, 1000, "020101"), settle(1, 2, 0)]
        self.assertEqual(run(*calls)[-2:], [[2, 2, 1, 0], [1, 1, 100]])

    def test_owes_less_after_inspect_takes_a_parcel_out(self):
        for code, state in (("020101", 1), ("030101", 2)):
            calls = office(RULES) + [parcel(item(value="0.66")), parcel(item(value="0.66"))]
            told = run(*calls, inspect(1, 1, 66, code), settle(1, 2, 0))
            self.assertEqual(told[-2:], [[1, 2, state, 0], [2, 1, -1]])

    def test_after_another_settling(self):
        # 100 were given back; without the second parcel's charge that was too much.
        told = run(*charged_too_much(), settle(1, 2, 0), settle(1, 2, 0), back(2), settle(1, 2, 0), settle(1, 2, 0))
        self.assertEqual(told[-5:], [[2, 1, -100], [-6], [0], [1, 1, 100], [-6]])

    def test_several_settlings_count_together(self):
        # Settled by 100 and by -100: nothing is charged or owed in the end.
        told = run(*charged_too_much(), settle(1, 2, 0), back(2), settle(1, 2, 0), counts(), group())
        self.assertEqual(told[-2:], [[0, 5, 1500, 3, 1, 2, 2], [1, 2, 500, 0, 2, 0, 0]])

    def test_a_group_without_parcels_that_was_settled(self):
        told = run(*a_hundredth_too_much(), settle(1, 2, 0), back(2), group(), settle(1, 2, 0), group(),
                   settle(1, 2, 0))
        self.assertEqual(told[-5:], [[0], [0, 2, 0, 0, 2, 0, -1], [1, 1, 1], [0, 2, 0, 0, 2, 0, 0], [-6]])

    def test_great_amounts(self):
        # The second parcel was charged for the first one too, 3000 of it, and is sent back.
        rich = [item(value="1000000.00")] * 20
        calls = office("01 1000 1000", threshold=1000) + [parcel(), parcel(*rich), parcel(), back(2), settle(1, 2, 0)]
        self.assertEqual(run(*calls)[3:], [[1, 2, 4, 0], [2, 2, 3, 6000003000], [3, 2, 3, 3000], [0], [1, 1, 3000]])


class NotNow(unittest.TestCase):
    def test_owes_just_what_was_charged(self):
        self.assertEqual(last(*office(), parcel(), settle(1, 2, 0)), [-6])
        self.assertEqual(last(*office(), parcel(), pay(1, 100), settle(1, 2, 0)), [-6])
        self.assertEqual(last(*office(), parcel(), parcel(), back(1), settle(1, 2, 0)), [-6])
        self.assertEqual(last(*office(threshold=1000), parcel(), settle(1, 2, 0)), [-6])

    def test_no_parcels(self):
        self.assertEqual(last(settle(1, 2, 0)), [-6])
        self.assertEqual(last(*office(), parcel(), back(1), settle(1, 2, 0)), [-6])
        self.assertEqual(last(*office(RULES), parcel(item("020101")), parcel(item("030101")), settle(1, 2, 0)), [-6])

    def test_other_groups(self):
        others = [settle(1, 2, 1), settle(2, 1, 0), settle(1, 1, 0), settle(2, 2, 0), settle(1, 2, 0)]
        self.assertEqual(run(*charged_too_much(), *others)[-5:], [[-6]] * 4 + [[2, 1, -100]])

    def test_nothing_changes(self):
        told = run(*office(), parcel(), settle(1, 2, 0), counts(), group())
        self.assertEqual(told[-3:], [[-6], [0, 5, 0, 1, 1, 1, 0], [1, 2, 1000, 0, 2, 100, 100]])


class Ranges(unittest.TestCase):
    def test_ends(self):
        for arguments in ((1, 1, 0), (9999, 1, 0), (1, 9999, 0), (1, 1, 20000), (9999, 9999, 20000)):
            self.assertEqual(last(settle(*arguments)), [-6], arguments)

    def test_beyond(self):
        for arguments in ((0, 1, 0), (10000, 1, 0), (-1, 1, 0), (1, 0, 0), (1, 10000, 0), (1, -1, 0), (1, 1, -1),
                          (1, 1, 20001), (0, 0, -1)):
            self.assertEqual(last(settle(*arguments)), [-1], arguments)

    def test_a_group_at_the_ends(self):
        calls = office(RULES) + [day(1000)] * 100
        small = parcel(item(value="0.66"), sender=9999, receiver=9999)
        told = run(*calls, small, small, back(1), settle(9999, 9999, 14285), settle(9999, 9999, 14284))
        self.assertEqual(told[-2:], [[2, 1, -1], [-6]])

    def test_nothing_changes(self):
        told = run(*charged_too_much(), settle(0, 2, 0), settle(1, 10000, 0), settle(1, 2, -1), counts(), group())
        self.assertEqual(told[-5:], [[-1]] * 3 + [[0, 5, 1500, 3, 1, 2, 0], [2, 2, 1500, 0, 2, 0, 100]])


class LaterOn(unittest.TestCase):
    def test_a_parcel_of_that_week_is_charged_what_was_given_back(self):
        # Above the threshold again all is owed, 150; the 100 that were charged have been given back.
        one_more = parcel(item(value="0.01"))
        self.assertEqual(last(*charged_too_much(), one_more), [3, 2, 3, 50])
        self.assertEqual(last(*charged_too_much(), settle(1, 2, 0), one_more), [3, 2, 3, 150])
        self.assertEqual(last(*charged_too_much(), settle(1, 2, 0), day(6), one_more), [3, 2, 3, 150])

    def test_a_parcel_of_that_week_is_not_charged_what_was_settled(self):
        self.assertEqual(last(*charged_too_little(), parcel()), [4, 2, 3, 200])
        self.assertEqual(last(*charged_too_little(), settle(1, 2, 0), parcel()), [4, 2, 3, 100])
        self.assertEqual(last(*charged_too_little(), settle(1, 2, 0), parcel(item(value="0.01"))), [4, 2, 4, 0])

    def test_other_groups_are_charged_as_ever(self):
        settled = charged_too_little() + [settle(1, 2, 0)]
        dear = item(value="20.00")
        self.assertEqual(last(*settled, parcel(dear, sender=2, receiver=1)), [4, 2, 3, 200])
        self.assertEqual(last(*settled, parcel(dear, sender=3)), [4, 2, 3, 200])
        self.assertEqual(last(*settled, parcel(dear, receiver=3)), [4, 2, 3, 200])
        self.assertEqual(last(*settled, day(7), parcel(dear)), [4, 2, 3, 200])

    def test_in_that_weeks_group_alone(self):
        told = run(*charged_too_much(), settle(1, 2, 0), group(), group(week=1), group(2, 1), group(1, 1), group(2, 2),
                   back(2), group(), group(week=1), group(2, 1))
        self.assertEqual([owed_and_charged(answer) for answer in told[-9:-4]], [[0, 0]] * 5)
        self.assertEqual([owed_and_charged(answer) for answer in told[-3:]], [[0, -100], [0, 0], [0, 0]])

    def test_each_of_two_weeks_has_its_own(self):
        small = parcel(item(value="0.66"))
        calls = a_hundredth_too_much() + [day(7), small, small, back(3), settle(1, 2, 1), group(), group(week=1)]
        told = run(*calls, settle(1, 2, 0), group(), group(week=1))
        self.assertEqual(told[-6:], [[2, 1, -1], [1, 2, 66, 0, 2, 6, 7], [1, 2, 66, 0, 2, 6, 6],
                                     [2, 1, -1], [1, 2, 66, 0, 2, 6, 6], [1, 2, 66, 0, 2, 6, 6]])

    def test_when_a_parcel_of_that_week_is_looked_at_later(self):
        waiting = parcel(item("030101"))
        calls = charged_too_little() + [waiting, settle(1, 2, 0), day(7), licence(4, 3)]
        self.assertEqual(run(*calls)[-4:], [[4, 2, 2, 0], [1, 1, 100], [7], [4, 2, 3, 100]])
        calls = charged_too_little() + [waiting, settle(1, 2, 0), day(7), inspect(4, 1, 2000, "010101")]
        self.assertEqual(last(*calls), [4, 2, 3, 200])

    def test_settling_changes_no_parcel(self):
        told = run(*charged_too_much(), tell_parcel(1), tell_parcel(2), settle(1, 2, 0), tell_parcel(1), tell_parcel(2))
        self.assertEqual(told[-5:-3], told[-2:])

    def test_what_was_charged_can_still_be_paid(self):
        self.assertEqual(run(*charged_too_much(), settle(1, 2, 0), pay(2, 100), group())[-2:],
                         [[100], [2, 2, 1500, 0, 2, 0, 0]])

    def test_begin_forgets_them(self):
        again = office(RULES, threshold=1500) + [parcel(), parcel(item(value="20.00")), settle(1, 2, 0)]
        told = run(*charged_too_much(), settle(1, 2, 0), begin(0), counts(), group(), settle(1, 2, 0), *again)
        self.assertEqual(told[-9:], [[0, 5, 0, 0, 0, 0, 0], [0, 2, 0, 0, 2, 0, 0], [-6],
                                     [0], [3], [0], [1, 2, 4, 0], [2, 2, 3, 300], [-6]])


if __name__ == "__main__":
    unittest.main()
