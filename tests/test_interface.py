"""How a list of calls is read and how its answers are given back."""

import builtins
import contextlib
import io
import unittest
from unittest import mock

from parcelduty.customs import UnknownCall, answers
from tests.helper import (GREATEST, LEAST, back, begin, counts, day, declaration, declare, group, inspect, item, last,
                          licence, look, money, office, parcel, pay, print_tariff, read, row, run, settle, tariff,
                          tell_good, tell_parcel)


class Unchangeable(list):
    """A list that can't be changed, not for a while either."""

    def refuse(self, *args, **kwargs):
        raise AssertionError("the list that was handed in is changed")

    append = extend = insert = pop = remove = clear = sort = reverse = refuse
    __setitem__ = __delitem__ = __iadd__ = __imul__ = refuse


def busy_day():
    """A list with each call, answered and refused."""
    calls = office("01 100 0\n02 0 0 LICENCE 7\n03 0 0 BARRED", 0)
    calls += [parcel(), parcel(item("020000")), parcel(item("030000"), receiver=3), licence(2, 7), licence(2, 7)]
    calls += [pay(1, 99), pay(1, 100), inspect(3, 1, 5000, "010101"), back(3), back(3), day(8), day(-1)]
    calls += [declare("FROM"), tariff("x"), begin(-1), money(0, 1), inspect(1, 1, 1, ""), parcel()]
    calls += [inspect(4, 1, 66, "010101"), parcel(item(value="0.66")), back(4), settle(1, 2, 1), settle(1, 2, 1)]
    calls += [tell_parcel(5), tell_parcel(6), tell_good(3, 1), tell_good(3, 2), group(week=1), group(0)]
    calls += [look(5, "0200"), look(5, "x"), print_tariff(), read(declaration()), read("FROM"), counts()]
    return [number for call in calls for number in call]


class Shape(unittest.TestCase):
    def test_each_answer_has_its_length_before_it(self):
        self.assertEqual(answers(busy_day()), [
            1, 0, 1, 3, 1, 0,
            4, 1, 2, 3, 100, 4, 2, 2, 2, 0, 4, 3, 2, 1, 0, 4, 2, 2, 4, 0, 1, -6,
            1, -7, 1, 100, 4, 3, 2, 3, 500, 1, 0, 1, -6, 1, 8, 1, -1,
            1, -1001, 1, -1001, 1, -1, 1, -1, 1, -2, 4, 4, 2, 3, 100,
            4, 4, 2, 3, 6, 4, 5, 2, 3, 7, 1, 0, 3, 2, 1, -1, 1, -6,
            17, 3, 6, 1, 2, 8, 1000000, 1, 7, 0, 2, 66, 0, 2, 6, 600000000000, 1, 5, 1, -4,
            23, 5000, 6, 48, 49, 48, 49, 48, 49, 5, 5, 100, 0, 0, 0, 2, 5000, 0, 2, 500, 0, 2, 0, 0, 1, -4,
            7, 1, 2, 66, 0, 2, 6, 6, 1, -1,
            8, 0, 2, 48, 50, 3, 0, 0, 7, 1, -2]
            + [42, 3] + row("01 100 0\n02 0 0 LICENCE 7\n03 0 0 BARRED\n")
            + [41, 1] + row("FROM 1\nTO 2\nMONEY 1\nITEM 010101 10.00 5") + [1, -1001]
            + [7, 8, 5, 0, 3, 1, 5, 1])

    def test_a_row_of_no_numbers_is_told_too(self):
        self.assertEqual(answers([14]), [2, 0, 0])
        self.assertEqual(run(*office(), parcel(), tell_parcel(1))[-1],
                         [3, 6, 1, 2, 0, 1000000, 1, 100, 0, 2, 1000, 0, 2, 100, 0, 1, 1])

    def test_one_call_alone(self):
        self.assertEqual(answers([0, 0]), [1, 0])
        self.assertEqual(answers([1, 0]), [1, 0])
        self.assertEqual(answers([8, 1]), [1, -4])
        self.assertEqual(answers([9, 1, 1, 0]), [1, -6])
        self.assertEqual(answers([10, 1]), [1, -4])
        self.assertEqual(answers([11, 1, 1]), [1, -4])
        self.assertEqual(answers([12, 1, 1, 0]), [7, 0, 2, 0, 0, 2, 0, 0])
        self.assertEqual(answers([13, 1, 2, 48, 49]), [1, -4])
        self.assertEqual(answers([15, 0]), [1, -1001])
        self.assertEqual(answers([16]), [7, 0, 5, 0, 0, 0, 0, 0])

    def test_answers_are_whole_numbers_in_a_list(self):
        told = answers(busy_day())
        self.assertIs(type(told), list)
        self.assertEqual({type(number) for number in told}, {int})

    def test_a_text_may_hold_bytes_that_look_like_calls(self):
        self.assertEqual(run([1, 3, 0, 4, 8], day(1), [4, 2, 1, 5], day(2)), [[-1001], [1], [-1001], [3]])

    def test_texts_of_5000_bytes_are_read_whole(self):
        self.assertEqual(run(tariff([255] * 5000), declare([0] * 5000), inspect(1, 1, 1, [48] * 5000), day(3)),
                         [[-1], [-1], [-2], [3]])
        self.assertEqual(run(look(1, [48] * 5000), read([10] * 5000), look(1, [14] * 5000), day(3)),
                         [[-2], [-1], [-2], [3]])

    def test_400_calls(self):
        self.assertEqual(run(*[day(1)] * 400), [[place + 1] for place in range(400)])

    def test_ends_of_whole_numbers_are_refused_not_mistaken(self):
        for number in (LEAST, GREATEST):
            calls = [begin(number), money(number, 1), money(1, number), day(number), licence(number, 1),
                     licence(1, number), pay(number, 1), pay(1, number), inspect(number, 1, 1, "010101"),
                     inspect(1, number, 1, "010101"), inspect(1, 1, number, "010101"), back(number),
                     settle(number, 1, 0), settle(1, number, 0), settle(1, 1, number), tell_parcel(number),
                     tell_good(number, 1), tell_good(1, number), group(number, 1, 0), group(1, number, 0),
                     group(1, 1, number), look(number, "01")]
            self.assertEqual(run(*office(), parcel(), *calls)[4:], [[-1]] * len(calls))

    def test_a_number_that_is_no_call(self):
        for number in (-1, 17, LEAST, GREATEST):
            with self.assertRaises(UnknownCall):
                answers([number])


class NothingElse(unittest.TestCase):
    def test_what_is_handed_in_stays(self):
        calls = busy_day()
        before = list(calls)
        answers(calls)
        self.assertEqual(calls, before)

    def test_what_is_handed_in_is_not_changed_for_a_while_either(self):
        calls = busy_day()
        self.assertEqual(answers(Unchangeable(calls)), answers(calls))

    def test_answers_the_same_when_called_again(self):
        calls = busy_day()
        first = answers(calls)
        self.assertEqual(answers(calls), first)
        first.append(1)
        self.assertEqual(answers(calls), first[:-1])

    def test_nothing_is_kept_for_the_next_list(self):
        run(*office(threshold=1500), day(9), parcel(), parcel(), parcel(), back(2), settle(1, 2, 1))
        self.assertEqual(run(counts(), print_tariff(), group(week=1), tell_parcel(1)),
                         [[0, 5, 0, 0, 0, 0, 0], [0, 0], [0, 2, 0, 0, 2, 0, 0], [-4]])
        self.assertEqual(last(day(0)), [0])
        self.assertEqual(last(back(1)), [-4])
        self.assertEqual(last(parcel()), [-3])
        self.assertEqual(last(money(1, 1), parcel()), [-4])
        self.assertEqual(last(tariff("01 100 0"), money(1, 1000000), parcel()), [1, 2, 3, 100])

    def test_prints_reads_and_imports_nothing(self):
        calls = busy_day()
        refused = mock.Mock(side_effect=AssertionError("not to be used"))
        printed = io.StringIO()
        with contextlib.redirect_stdout(printed), contextlib.redirect_stderr(printed):
            with mock.patch.multiple(builtins, open=refused, input=refused, __import__=refused):
                answers(calls)
        self.assertEqual(printed.getvalue(), "")


if __name__ == "__main__":
    unittest.main()
