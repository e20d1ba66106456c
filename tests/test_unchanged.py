"""That a refusal changes nothing, and that the calls which only tell change nothing either."""

import unittest

from tests.helper import (back, begin, counts, day, declaration, declare, group, in_each_state, inspect, item, last,
                          licence, look, money, office, parcel, pay, print_tariff, read, run, settle, tariff, tell_good,
                          tell_parcel)

RULES = "01 100 0\n02 100 0 BARRED\n03 100 0 LICENCE 3\n05 0 0"


def busy():
    """An office with a parcel in each state, a settling, and a group that was charged a hundredth too much since."""
    settled = [parcel(), parcel(), parcel(), back(7), settle(1, 2, 0)]
    small = parcel(item(value="0.66"))
    states = in_each_state(RULES, value="20.00", threshold=1500)
    return states + [money(3, 7)] + settled + [small, small, back(9)]


def probe():
    """Calls whose answers tell all there is; the last ones would be charged by what they find."""
    calls = [counts(), print_tariff()] + [tell_parcel(number) for number in range(1, 12)]
    calls += [tell_good(number, 1) for number in range(1, 12)]
    calls += [group(1, receiver) for receiver in (2, 11, 12, 13, 14, 15)] + [group(week=1)]
    calls += [settle(1, 2, 0)] + [parcel(coin=coin) for coin in range(1, 10)] + [licence(2, 4), pay(3, 200), counts()]
    return calls + [tell_parcel(number) for number in range(1, 14)]


REFUSED = [
    (begin(-1), -1), (begin(1000001), -1),
    (tariff("x" * 4001), -1), (tariff("09 1 1\n01 1 1\nx"), -1003), (tariff("01 1 1\n01 1 1"), -1002),
    (money(0, 1), -1), (money(10, 1), -1), (money(1, 0), -1), (money(4, 100000001), -1),
    (day(-1), -1), (day(1001), -1),
    (declare("x" * 1001), -1), (declare("FROM 1"), -1002), (declare(declaration() + "\n"), -1005),
    (parcel(coin=2), -3), (parcel(item(), item("090101")), -4),
    (licence(2, 0), -1), (licence(2, 100), -1), (licence(0, 3), -1), (licence(101, 3), -1), (licence(11, 3), -4),
    (licence(1, 3), -6), (licence(3, 3), -6), (licence(4, 3), -6), (licence(5, 3), -6), (licence(2, 9), -5),
    (pay(3, 0), -1), (pay(3, 1000000000000001), -1), (pay(0, 100), -1), (pay(101, 100), -1), (pay(11, 100), -4),
    (pay(1, 100), -6), (pay(2, 100), -6), (pay(4, 100), -6), (pay(5, 100), -6), (pay(3, 99), -7),
    (inspect(3, 0, 5, "050101"), -1), (inspect(3, 21, 5, "050101"), -1), (inspect(3, 1, 0, "050101"), -1),
    (inspect(3, 1, 100000001, "050101"), -1), (inspect(3, 1, 5, "05"), -2), (inspect(0, 1, 5, "050101"), -1),
    (inspect(11, 1, 5, "050101"), -4), (inspect(3, 2, 5, "050101"), -4), (inspect(4, 1, 5, "010101"), -6),
    (inspect(5, 1, 5, "010101"), -6), (inspect(3, 1, 5, "090101"), -4),
    (back(0), -1), (back(101), -1), (back(11), -4), (back(4), -6), (back(5), -6),
    (settle(0, 2, 0), -1), (settle(1, 10000, 0), -1), (settle(1, 2, -1), -1), (settle(1, 2, 20001), -1),
    (settle(1, 13, 0), -6), (settle(1, 2, 1), -6),
    (tell_parcel(0), -1), (tell_parcel(101), -1), (tell_parcel(11), -4),
    (tell_good(3, 0), -1), (tell_good(3, 21), -1), (tell_good(0, 1), -1), (tell_good(11, 1), -4), (tell_good(3, 2), -4),
    (group(0), -1), (group(1, 10000), -1), (group(1, 2, 20001), -1),
    (look(0, "01"), -1), (look(100, "01"), -1), (look(1, "x"), -2), (look(1, "09"), -4),
    (read("x" * 1001), -1), (read("FROM 1"), -1002),
]

TELLING = [tell_parcel(1), tell_parcel(5), tell_good(2, 1), group(), group(9999, 9999, 20000), look(1, "01"),
           look(99, "020202"), print_tariff(), read(declaration()), read(declaration(item("990000"), coin=9)), counts()]


class Unchanged(unittest.TestCase):
    def setUp(self):
        self.before = run(*busy(), *probe())[-len(probe()):]

    def test_the_office_is_busy(self):
        # What a probe is for: parcels in each state, a settling, and a group that isn't settled yet.
        self.assertEqual(self.before[0], [0, 5, 1500, 4, 2, 10, 1])
        self.assertEqual([answer[0] for answer in self.before[2:13]], [1, 2, 3, 4, 5, 4, 5, 3, 5, 3, -4])
        self.assertEqual(self.before[24], [3, 2, 2066, 0, 2, 206, 207])
        self.assertEqual(self.before[31:34], [[2, 1, -1], [11, 2, 3, 100], [-3]])
        self.assertEqual(self.before[41:44], [[2, 2, 2, 0], [200], [0, 5, 1500, 4, 2, 12, 2]])

    def test_refusals(self):
        for call, refusal in REFUSED:
            told = run(*busy(), call, *probe())
            self.assertEqual(told[len(busy())], [refusal], call)
            self.assertEqual(told[-len(probe()):], self.before, call)

    def test_refusals_one_behind_another(self):
        told = run(*busy(), *[call for call, refusal in REFUSED], *probe())
        self.assertEqual(told[-len(probe()):], self.before)

    def test_calls_that_only_tell(self):
        for call in TELLING:
            told = run(*busy(), call, call, *probe())
            self.assertGreaterEqual(told[len(busy())][0], 0, call)
            self.assertEqual(told[len(busy())], told[len(busy()) + 1], call)
            self.assertEqual(told[-len(probe()):], self.before, call)

    def test_too_many(self):
        full = office(RULES) + [parcel(item("050101"))] * 100 + [day(1000)] * 100
        told = [counts(), group(), tell_parcel(1), tell_parcel(100), group(week=14285)]
        self.assertEqual(run(*full, parcel(), day(1), *told)[-7:], [[-8], [-8]] + run(*full, *told)[-5:])

    def test_a_new_office(self):
        calls = [call for call, refusal in REFUSED if call[0] not in (5, 6, 7, 8, 10, 11)]
        told = run(*[call for call in calls if last(call)[0] < 0], counts(), print_tariff(), group())
        self.assertEqual(told[-3:], [[0, 5, 0, 0, 0, 0, 0], [0, 0], [0, 2, 0, 0, 2, 0, 0]])


if __name__ == "__main__":
    unittest.main()
