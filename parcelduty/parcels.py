"""What the customs keep: the day, the threshold, the tariff, rates, parcels with their goods, and settlings."""

from parcelduty.tariff import duty_from

BARRED = 1
LICENCE_MISSING = 2
TO_BE_PAID = 3
RELEASED = 4
SENT_BACK = 5


class Good:
    """A good in a parcel, with what the tariff said of its code when it was last looked up."""

    def __init__(self, code, value, origin, rule):
        self.code = code
        self.value = value
        self.origin = origin
        self.duty = duty_from(rule, origin)
        self.tax = rule.tax
        self.barred = rule.barred
        self.licence = rule.licence


class Parcel:
    """A parcel as it's declared, not yet looked at."""

    def __init__(self, sender, receiver, day, rate):
        self.sender = sender
        self.receiver = receiver
        self.day = day
        self.rate = rate
        self.goods = []
        self.licences = []
        self.state = TO_BE_PAID
        self.charged = 0


class Settling:
    """What a group came to owe more than it was charged, in hundredths (below 0: less)."""

    def __init__(self, sender, receiver, week, amount):
        self.sender = sender
        self.receiver = receiver
        self.week = week
        self.amount = amount


class Office:
    """The object that a list of calls is about."""

    def __init__(self):
        self.renew(0)

    def renew(self, threshold):
        """Forget all there is, and keep this threshold."""
        self.day = 0
        self.threshold = threshold
        self.rules = {}
        self.rates = {}
        self.parcels = []
        self.settlings = []
