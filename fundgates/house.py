"""What the house keeps: classes, requests, pockets, and what each holder is owed and has got."""

CLASSES = 4
HOLDERS = 20
THINGS = 5
MILLION = 1000000


class FundClass:
    """A class of units; suspended is 1 or 0, and so is way (1 by age, 0 together)."""

    def __init__(self, limit, way):
        self.limit = limit
        self.way = way
        self.suspended = 0
        self.created = 0
        self.cancelled = 0
        self.units = [0] * HOLDERS
        self.stock = [0] * THINGS

    def in_issue(self):
        return sum(self.units)


class Request:
    """Units asked back; its place is where it stands in the house's list."""

    def __init__(self, c, holder, point, in_kind, asked):
        self.c = c
        self.holder = holder
        self.point = point
        self.in_kind = in_kind
        self.asked = asked
        self.paid = 0
        self.taken_back = 0

    def waiting(self):
        return self.asked - self.paid - self.taken_back


class Pocket:
    """The holders' units of the day when it was made, and the money given out of it."""

    def __init__(self, c, units):
        self.c = c
        self.units = units
        self.given = 0


class Holder:
    """What is kept of a holder besides units, which the classes keep."""

    def __init__(self):
        self.owed = 0
        self.out = 0
        self.got = [0] * THINGS


class House:
    """All that a line of calls works on; a class that is not there stands as None."""

    def __init__(self):
        self.begin()

    def begin(self):
        """Makes all as at first."""
        self.point = 0
        self.limit = MILLION
        self.classes = [None] * CLASSES
        self.requests = []
        self.pockets = []
        self.holders = [Holder() for h in range(HOLDERS)]

    def has_class(self, c):
        return 0 <= c < CLASSES and self.classes[c] is not None

    def has_request(self, place):
        return 0 <= place < len(self.requests)

    def has_pocket(self, place):
        return 0 <= place < len(self.pockets)

    def in_issue(self, c):
        """The units of class c in issue, 0 if it is not there."""
        if not self.has_class(c):
            return 0
        return self.classes[c].in_issue()

    def waiting_requests(self, c):
        """The requests of class c that still wait, in the order of their places."""
        return [request for request in self.requests if request.c == c and request.waiting() > 0]

    def waiting(self, c):
        """How many units the requests of class c wait for."""
        return sum([request.waiting() for request in self.waiting_requests(c)])

    def locked(self, c, h):
        """How many units of class c the requests of holder h wait for."""
        return sum([request.waiting() for request in self.waiting_requests(c) if request.holder == h])

    def unlocked(self, c, h):
        """How many units of class c holder h may still give away or ask back."""
        return self.classes[c].units[h] - self.locked(c, h)
