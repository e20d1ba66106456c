"""Duty and tax to the last part, groups, the threshold, and how a parcel is looked at."""

import unittest

from tests.helper import back, day, inspect, item, last, licence, money, office, parcel, pay, run


def charges(told):
    """State and charge of each parcel that answers tell."""
    return [tuple(answer[2:]) for answer in told if len(answer) == 4]


class Parts(unittest.TestCase):
    def test_duty_alone(self):
        self.assertEqual(last(*office("01 100 0"), parcel()), [1, 2, 3, 100])
        self.assertEqual(last(*office("01 1 0"), parcel()), [1, 2, 3, 1])
        self.assertEqual(last(*office("01 1000 0"), parcel()), [1, 2, 3, 1000])

    def test_tax_alone(self):
        self.assertEqual(last(*office("01 0 100"), parcel()), [1, 2, 3, 100])
        self.assertEqual(last(*office("01 0 1000"), parcel()), [1, 2, 3, 1000])

    def test_the_duty_is_taxed_too(self):
        # Worth 1000, duty 500, tax 200 thousandths of 1500.
        self.assertEqual(last(*office("01 500 200"), parcel()), [1, 2, 3, 800])
        self.assertEqual(last(*office("01 1000 1000"), parcel()), [1, 2, 3, 3000])

    def test_neither(self):
        self.assertEqual(last(*office("01 0 0"), parcel()), [1, 2, 4, 0])

    def test_the_rate(self):
        self.assertEqual(last(*office(rate=1), parcel()), [1, 2, 4, 0])
        self.assertEqual(last(*office(rate=10000), parcel()), [1, 2, 3, 1])
        self.assertEqual(last(*office(rate=9999), parcel()), [1, 2, 4, 0])
        self.assertEqual(last(*office(rate=1234567), parcel()), [1, 2, 3, 123])
        self.assertEqual(last(*office(rate=100000000), parcel()), [1, 2, 3, 10000])

    def test_to_the_last_part(self):
        dear = item(value="1000000.00")
        # At rate 1 it's worth 100 hundredths: duty 0.1 and tax 0.1001, which is no hundredth.
        self.assertEqual(last(*office("01 1 1", rate=1), parcel(dear)), [1, 2, 4, 0])
        # Duty 99.9, tax 999 thousandths of 199.9, which is 199.7001: 299.6001.
        self.assertEqual(last(*office("01 999 999", rate=1), parcel(dear)), [1, 2, 3, 299])
        # Each part counts: 0.5 hundredths twice are one, less a millionth they're none.
        halves = [item(value="0.01"), item(value="0.01")]
        self.assertEqual(last(*office("01 500 0"), parcel(*halves)), [1, 2, 3, 1])
        self.assertEqual(last(*office("01 500 0", rate=999999), parcel(*halves)), [1, 2, 4, 0])

    def test_no_rounding_within_a_good(self):
        # Duty 0.333, tax 0.333 of 1.333 which is 0.443889: 0.776889 each, 1.553778 of two, 3.107556 of four.
        small = item(value="0.01")
        self.assertEqual(last(*office("01 333 333"), parcel(small)), [1, 2, 4, 0])
        self.assertEqual(last(*office("01 333 333"), parcel(small, small)), [1, 2, 3, 1])
        self.assertEqual(last(*office("01 333 333"), parcel(*[small] * 4)), [1, 2, 3, 3])

    def test_just_a_whole_hundredth(self):
        # Duty 0.001 and tax 0.001 of 1.001: 0.002001 for each hundredth; 500 of them make 1.0005, 499 0.998499.
        self.assertEqual(last(*office("01 1 1"), parcel(item(value="4.99"))), [1, 2, 4, 0])
        self.assertEqual(last(*office("01 1 1"), parcel(item(value="5.00"))), [1, 2, 3, 1])
        # Less than a hundredth is none: 9.99 at duty 1 is 0.999.
        self.assertEqual(last(*office("01 1 0"), parcel(item(value="9.99"))), [1, 2, 4, 0])

    def test_the_greatest(self):
        # 20 goods of 10000000000 hundredths' worth each, with duty once and tax twice as much.
        goods = [item(value="1000000.00")] * 20
        calls = office("01 1000 1000", rate=100000000) + [parcel(*goods)] * 3
        self.assertEqual(charges(run(*calls)), [(3, 600000000000)] * 3)

    def test_goods_of_several_rules(self):
        rules = "01 100 0\n02 0 200\n03 500 200"
        goods = [item("010101", "1.00"), item("020101", "2.00"), item("030101", "3.00")]
        # 10, 40, and of 300 duty 150 and tax 90.
        self.assertEqual(last(*office(rules), parcel(*goods)), [1, 2, 3, 290])


class Groups(unittest.TestCase):
    def test_rounded_down_once_for_the_group(self):
        # Each parcel has 0.6 hundredths of duty.
        small = parcel(item(value="0.06"))
        told = run(*office(), *[small] * 6)
        self.assertEqual(charges(told), [(4, 0), (3, 1), (4, 0), (3, 1), (3, 1), (4, 0)])

    def test_the_threshold(self):
        self.assertEqual(last(*office(threshold=1000), parcel()), [1, 2, 4, 0])
        self.assertEqual(last(*office(threshold=999), parcel()), [1, 2, 3, 100])
        self.assertEqual(last(*office(threshold=1001), parcel()), [1, 2, 4, 0])
        self.assertEqual(last(*office(threshold=1000), parcel(item(value="10.01"))), [1, 2, 3, 100])

    def test_the_threshold_by_a_millionth(self):
        # 1000 hundredths at rate 1000001 are 1000.001: above the threshold by less than a hundredth.
        self.assertEqual(last(*office(threshold=1000, rate=1000001), parcel()), [1, 2, 3, 100])
        self.assertEqual(last(*office(threshold=1000, rate=999999), parcel()), [1, 2, 4, 0])

    def test_duty_and_tax_do_not_count_for_the_threshold(self):
        self.assertEqual(last(*office("01 1000 1000", threshold=1000), parcel()), [1, 2, 4, 0])

    def test_the_threshold_at_its_greatest(self):
        rich = item(value="10000.00")
        self.assertEqual(last(*office(threshold=1000000), parcel(rich)), [1, 2, 4, 0])
        self.assertEqual(last(*office(threshold=1000000), parcel(rich, item(value="0.01"))), [1, 2, 3, 100000])

    def test_above_the_threshold_all_is_owed(self):
        # Two parcels are gathered just at the threshold; the third one pays for all three.
        told = run(*office(threshold=2000), parcel(), parcel(), parcel(item(value="0.01")), parcel())
        self.assertEqual(charges(told), [(4, 0), (4, 0), (3, 200), (3, 100)])

    def test_one_week_and_two(self):
        told = run(*office(threshold=1000), parcel(), day(6), parcel(), day(1), parcel(), day(6), parcel(), day(1),
                   parcel())
        self.assertEqual(charges(told), [(4, 0), (3, 200), (4, 0), (3, 200), (4, 0)])

    def test_a_day_just_before_and_just_after(self):
        told = run(*office(threshold=1000), day(6), parcel(), day(1), parcel())
        self.assertEqual(charges(told), [(4, 0), (4, 0)])

    def test_another_sender_or_receiver(self):
        told = run(*office(threshold=1000), parcel(), parcel(sender=3), parcel(receiver=3), parcel(sender=2, receiver=1),
                   parcel(sender=3), parcel())
        self.assertEqual(charges(told), [(4, 0), (4, 0), (4, 0), (4, 0), (3, 200), (3, 200)])

    def test_barred_parcels_are_not_gathered(self):
        rules = "01 100 0\n02 100 0 BARRED"
        told = run(*office(rules, threshold=1000), parcel(item("020101")), parcel(), parcel(item("020101")))
        self.assertEqual(charges(told), [(1, 0), (4, 0), (1, 0)])

    def test_parcels_without_licence_are_not_gathered(self):
        rules = "01 100 0\n02 100 0 LICENCE 3"
        told = run(*office(rules, threshold=1000), parcel(item("020101")), parcel(), licence(1, 3))
        self.assertEqual(charges(told), [(2, 0), (4, 0), (3, 200)])

    def test_parcels_sent_back_are_not_gathered(self):
        told = run(*office(threshold=1999), parcel(), parcel(), back(2), parcel(item(value="9.99")))
        self.assertEqual(charges(told), [(4, 0), (3, 200), (4, 0)])

    def test_what_parcels_sent_back_were_charged_is_owed_again(self):
        told = run(*office(), parcel(), parcel(), back(1), parcel(item(value="0.01")))
        self.assertEqual(charges(told), [(3, 100), (3, 100), (4, 0)])
        told = run(*office(threshold=1500), parcel(), parcel(), back(2), parcel())
        self.assertEqual(charges(told), [(4, 0), (3, 200), (3, 200)])

    def test_paid_parcels_count_as_charged(self):
        told = run(*office(), parcel(), pay(1, 100), parcel(), pay(2, 100), parcel())
        self.assertEqual(charges(told), [(3, 100), (3, 100), (3, 100)])

    def test_parcels_of_moneys_together(self):
        told = run(*office(threshold=3000), money(2, 2000000), parcel(), parcel(coin=2), parcel(item(value="0.01")))
        self.assertEqual(charges(told), [(4, 0), (4, 0), (3, 300)])


class LookedAtAgain(unittest.TestCase):
    def test_its_own_charge_before_does_not_count(self):
        told = run(*office(), parcel(), inspect(1, 1, 2000, "010101"), inspect(1, 1, 500, "010101"))
        self.assertEqual(charges(told), [(3, 100), (3, 200), (3, 50)])

    def test_nothing_more_owed_releases_it(self):
        # The second parcel is charged for both; the third one, put right, adds a tenth of a hundredth.
        told = run(*office(threshold=1500), parcel(), parcel(), parcel(), inspect(3, 1, 1, "010101"))
        self.assertEqual(charges(told), [(4, 0), (3, 200), (3, 100), (4, 0)])

    def test_less_owed_than_charged_releases_it(self):
        # Without the second parcel the group is below the threshold, but its third one was charged 10.
        told = run(*office(threshold=1500), parcel(), parcel(), parcel(item(value="1.00")), back(2),
                   parcel(item(value="0.01")), pay(3, 10))
        self.assertEqual(charges(told), [(4, 0), (3, 200), (3, 10), (4, 0)])
        self.assertEqual(told[-1], [10])

    def test_a_group_that_falls_to_the_threshold(self):
        # The first parcel is put right to 500: gathered is then 1500, at the threshold, and 200 was charged.
        told = run(*office(threshold=1500), parcel(item(value="20.00")), parcel(), inspect(1, 1, 500, "010101"),
                   parcel(item(value="0.01")))
        # Above the threshold again all is owed: 150, of which 100 were charged.
        self.assertEqual(charges(told), [(3, 200), (3, 100), (4, 0), (3, 50)])

    def test_the_week_is_that_of_its_declaration(self):
        rules = "01 100 0\n02 100 0 LICENCE 3"
        told = run(*office(rules, threshold=1000), parcel(item("020101")), day(7), parcel(), licence(1, 3))
        self.assertEqual(charges(told), [(2, 0), (4, 0), (4, 0)])
        told = run(*office(rules, threshold=1000), parcel(item("020101")), parcel(), day(7), licence(1, 3))
        self.assertEqual(charges(told), [(2, 0), (4, 0), (3, 200)])

    def test_other_parcels_stay_as_they_are(self):
        told = run(*office(), parcel(), parcel(), inspect(1, 1, 1, "010101"), pay(2, 100), pay(1, 1))
        self.assertEqual(told[3:], [[1, 2, 3, 100], [2, 2, 3, 100], [1, 2, 4, 0], [100], [-6]])


if __name__ == "__main__":
    unittest.main()
