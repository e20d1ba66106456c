"""What the office keeps of its parcels and goods, where no answer tells it yet."""

import unittest

from parcelduty.calls import (add_licence, begin_anew, declare, inspect, pass_days, pay, send_back, set_rate,
                              set_tariff)
from parcelduty.duties import (charged_to, dues_together, duty_parts, gathered_parts, group_of, owed_by, tax_parts,
                               worth_parts, worths_together)
from parcelduty.parcels import Office
from tests.helper import declaration, item


def bytes_of(text):
    return [ord(sign) for sign in text]


def open_office(rules, threshold=0, rate=1000000):
    office = Office()
    begin_anew(office, threshold)
    set_tariff(office, bytes_of(rules))
    set_rate(office, 1, rate)
    return office


def good_as_tuple(good):
    return ("".join(map(chr, good.code)), good.value, good.origin, good.duty, good.tax, good.barred, good.licence)


class Kept(unittest.TestCase):
    def test_at_first(self):
        office = Office()
        self.assertEqual([office.day, office.threshold, office.rules, office.rates, office.parcels], [0, 0, {}, {}, []])

    def test_a_parcel(self):
        office = open_office("01 100 50", rate=123)
        pass_days(office, 9)
        declare(office, bytes_of(declaration(item(), "LICENCE 4", "LICENCE 30", sender=77, receiver=9999)))
        parcel = office.parcels[0]
        self.assertEqual([parcel.sender, parcel.receiver, parcel.day, parcel.rate], [77, 9999, 9, 123])
        self.assertEqual([parcel.licences, parcel.state, parcel.charged], [[4, 30], 4, 0])

    def test_licences_in_the_order_told(self):
        office = open_office("01 0 0 LICENCE 2")
        declare(office, bytes_of(declaration(item(), "LICENCE 4", "LICENCE 30")))
        for number in (9, 3, 9, 2):
            add_licence(office, 1, number)
        self.assertEqual(office.parcels[0].licences, [4, 30, 9, 3, 2])

    def test_goods(self):
        office = open_office("01 100 50\n0102 7 8 LICENCE 9 FREE 4 5\n02 1 2 BARRED")
        lines = [item("010101", "10.00", 5), item("010203", "0.01", 5), item("010203", "1.00", 6),
                 item("020101", "1000000.00", 99)]
        declare(office, bytes_of(declaration(*lines)))
        inspected = inspect(office, 1, 1, 55, bytes_of("010299"))
        self.assertEqual(inspected, [1, 2, 1, 0])
        self.assertEqual([good_as_tuple(good) for good in office.parcels[0].goods], [
            ("010299", 55, 5, 0, 8, False, 9), ("010203", 1, 5, 0, 8, False, 9), ("010203", 100, 6, 7, 8, False, 9),
            ("020101", 100000000, 99, 1, 2, True, 0)])

    def test_sent_back(self):
        office = open_office("01 100 0")
        declare(office, bytes_of(declaration()))
        send_back(office, 1)
        self.assertEqual([office.parcels[0].state, office.parcels[0].charged], [5, 0])

    def test_paid(self):
        office = open_office("01 100 0")
        declare(office, bytes_of(declaration()))
        pay(office, 1, 100)
        self.assertEqual([office.parcels[0].state, office.parcels[0].charged], [4, 100])


class Parts(unittest.TestCase):
    def test_a_goods_worth_duty_and_tax(self):
        office = open_office("01 333 7", rate=1234567)
        declare(office, bytes_of(declaration(item(value="0.03"), item(value="0.01"))))
        parcel = office.parcels[0]
        good = parcel.goods[0]
        self.assertEqual(worth_parts(good, parcel.rate), 3703701000000)
        self.assertEqual(duty_parts(good, parcel.rate), 1233332433000)
        self.assertEqual(tax_parts(good, parcel.rate), 34559234031)
        self.assertEqual(worths_together(parcel), 4938268000000)
        self.assertEqual(dues_together(parcel), 1267891667031 + 411110811000 + 11519744677)

    def test_a_group(self):
        office = open_office("01 100 0\n02 100 0 BARRED", threshold=1500)
        for text in (declaration(), declaration(item("020101")), declaration(receiver=3), declaration()):
            declare(office, bytes_of(text))
        pass_days(office, 7)
        declare(office, bytes_of(declaration()))
        group = group_of(office, 1, 2, 0)
        self.assertEqual([len(group), gathered_parts(group)], [2, 2000 * 1000000000000])
        self.assertEqual([owed_by(group, 1500), owed_by(group, 2000), charged_to(group)], [200, 0, 200])
        later = group_of(office, 1, 2, 1)
        self.assertEqual([len(later), owed_by(later, 1500), charged_to(later)], [1, 0, 0])
        self.assertEqual([len(group_of(office, 2, 1, 0)), owed_by([], 0), charged_to([])], [0, 0, 0])


if __name__ == "__main__":
    unittest.main()
