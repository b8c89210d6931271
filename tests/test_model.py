"""Random lines, answered by the desk and by a second, plainer model of the document."""

import random
import unittest
from collections import Counter
from fractions import Fraction

from tests.helper import BILLION, ask, ask_house
from fundgates.house import House


def portion(pot, weights):
    """weights: a dict from names, in their order, to numbers."""
    whole = sum(weights.values())
    parts = {name: pot * weight // whole if whole else 0 for name, weight in weights.items()}
    while whole and sum(parts.values()) < pot:
        claims = [(-Fraction(weights[name], parts[name] + 1), at, name) for at, name in enumerate(weights)]
        parts[min(claims)[2]] += 1
    return parts


def ration(pot, asks):
    return dict(asks) if sum(asks.values()) <= pot else portion(pot, asks)


class Model:
    """Keeps everything in flat dicts, and each request as one row."""

    def __init__(self):
        self.clear()

    def answer(self, call):
        return getattr(self, {"class": "class_"}.get(call[0], call[0]))(*call[1:])

    def clear(self):
        self.at = 0
        self.gate = 10 ** 6
        self.terms = {}
        self.shut = Counter()
        self.units = Counter()
        self.store = Counter()
        self.rows = []
        self.pockets = []
        self.owed = Counter()
        self.gone = Counter()
        self.got = Counter()
        self.made = Counter()
        self.ended = Counter()
        return [0]

    def issue(self, c):
        return sum(self.units[c, h] for h in range(20))

    def free(self, c, h):
        return self.units[c, h] - sum(row["left"] for row in self.rows if (row["c"], row["h"]) == (c, h))

    def class_(self, c, limit, way):
        if c not in range(4) or limit not in range(1, 10 ** 6 + 1) or way not in (0, 1):
            return [-1]
        new = c not in self.terms
        self.terms[c] = (limit, way)
        return [0 if new else 1]

    def fund(self, limit):
        if limit not in range(1, 10 ** 6 + 1):
            return [-1]
        before, self.gate = self.gate, limit
        return [before]

    def create(self, c, h, units):
        if c not in self.terms:
            return [-2]
        if h not in range(20) or units not in range(1, BILLION + 1):
            return [-1]
        if self.issue(c) + units > BILLION:
            return [-3]
        self.units[c, h] += units
        self.made[c] += units
        return [self.units[c, h]]

    def transfer(self, c, giver, taker, units):
        if c not in self.terms:
            return [-2]
        if {giver, taker} - set(range(20)) or giver == taker or units not in range(1, BILLION + 1):
            return [-1]
        if units > self.free(c, giver):
            return [-5]
        self.units[c, giver] -= units
        self.units[c, taker] += units
        return [self.units[c, giver]]

    def request(self, c, h, units, kind):
        if c not in self.terms:
            return [-2]
        if h not in range(20) or units not in range(1, BILLION + 1) or kind not in (0, 1):
            return [-1]
        if len(self.rows) == 200:
            return [-3]
        if units > self.free(c, h):
            return [-5]
        self.rows.append({"c": c, "h": h, "at": self.at, "kind": kind, "asked": units, "left": units, "back": 0})
        return [len(self.rows) - 1]

    def withdraw(self, place, units):
        if place not in range(len(self.rows)):
            return [-6]
        if units not in range(1, BILLION + 1):
            return [-1]
        row = self.rows[place]
        if self.shut[row["c"]]:
            return [-7]
        if units > row["left"]:
            return [-5]
        row["left"] -= units
        row["back"] += units
        return [row["left"]]

    def suspend(self, c, on):
        if c not in self.terms:
            return [-2]
        if on not in (0, 1):
            return [-1]
        before, self.shut[c] = self.shut[c], on
        return [before]

    def stock(self, c, thing, amount):
        if c not in self.terms:
            return [-2]
        if thing not in range(5) or amount not in range(BILLION + 1):
            return [-1]
        if self.store[c, thing] + amount > BILLION:
            return [-3]
        self.store[c, thing] += amount
        return [self.store[c, thing]]

    def point(self, prices):
        if len(prices) != 4:
            return [-1]
        for c in range(4):
            if prices[c] not in (range(1, 100001) if c in self.terms else (0,)):
                return [-1]
        wants = {}
        for c in range(4):
            cap = 0
            if c in self.terms and not self.shut[c] and self.issue(c):
                cap = self.issue(c) * self.terms[c][0] // 10 ** 6 or 1
            wants[c] = min(cap, sum(row["left"] for row in self.rows if row["c"] == c))
        pot = sum(self.issue(c) * prices[c] for c in range(4)) * self.gate // 10 ** 6 or 1
        values = {c: wants[c] * prices[c] for c in range(4)}
        if sum(values.values()) > pot:
            parts = ration(pot, values)
            wants = {c: min(wants[c], parts[c] // prices[c] or 1) if wants[c] else 0 for c in range(4)}
        answer = [self.at]
        for c in range(4):
            answer += [wants[c], self.pay(c, wants[c], prices[c])]
        self.at += 1
        return answer

    def pay(self, c, going, price):
        rows = [row for row in self.rows if row["c"] == c]
        issue = self.issue(c)
        store = [self.store[c, thing] for thing in range(5)]
        by_age = c in self.terms and self.terms[c][1] == 1
        went = 0
        for at in range(self.at + 1) if by_age else (None,):
            sharing = [row for row in rows if at is None or row["at"] == at]
            asks = {h: sum(row["left"] for row in sharing if row["h"] == h) for h in range(20)}
            parts = ration(going - went, asks)
            for row in sharing:
                units = min(row["left"], parts[row["h"]])
                parts[row["h"]] -= units
                self.pay_row(row, units, price, store, issue)
                went += units
        return went

    def pay_row(self, row, units, price, store, issue):
        row["left"] -= units
        self.units[row["c"], row["h"]] -= units
        self.ended[row["c"]] += units
        if row["kind"] == 0:
            self.owed[row["h"]] += units * price
        elif units:
            for thing in range(5):
                self.got[row["h"], thing] += store[thing] * units // issue
                self.store[row["c"], thing] -= store[thing] * units // issue

    def pocket(self, c):
        if c not in self.terms:
            return [-2]
        if len(self.pockets) == 20:
            return [-3]
        if not self.issue(c):
            return [-5]
        self.pockets.append([{h: self.units[c, h] for h in range(20)}, 0, c, Counter()])
        return [len(self.pockets) - 1]

    def release(self, place, money):
        if place not in range(len(self.pockets)):
            return [-6]
        if money not in range(1, BILLION + 1):
            return [-1]
        weights, given, c, had = self.pockets[place]
        if given + money > 10 ** 12:
            return [-3]
        before, after = portion(given, weights), portion(given + money, weights)
        self.pockets[place][1] = given + money
        parts = [after[h] - before[h] for h in range(20)]
        self.owed.update(dict(enumerate(parts)))
        had.update(dict(enumerate(parts)))
        return [given + money] + parts

    def payout(self, h):
        if h not in range(20):
            return [-1]
        money = self.owed.pop(h, 0)
        self.gone[h] += money
        return [money]

    def holding(self, c, h):
        if c not in self.terms:
            return [-2]
        if h not in range(20):
            return [-1]
        return [self.units[c, h], self.units[c, h] - self.free(c, h)]

    def requestat(self, place):
        if place not in range(len(self.rows)):
            return [-6]
        row = self.rows[place]
        paid = row["asked"] - row["back"] - row["left"]
        return [row["c"], row["h"], row["at"], row["kind"], row["asked"], paid, row["back"], row["left"]]

    def waits(self, c):
        if c not in self.terms:
            return [-2]
        each = Counter()
        for row in self.rows:
            if row["c"] == c:
                each[row["h"]] += row["left"]
        return [sum(each.values())] + [each[h] for h in range(20)]

    def money(self, h):
        return [self.owed[h], self.gone[h]] if h in range(20) else [-1]

    def things(self, h):
        return [self.got[h, thing] for thing in range(5)] if h in range(20) else [-1]

    def classinfo(self, c):
        if c not in self.terms:
            return [-2]
        return [self.made[c] - self.ended[c], self.made[c], self.ended[c], *self.terms[c], self.shut[c]]

    def stockat(self, c):
        return [self.store[c, thing] for thing in range(5)] if c in self.terms else [-2]

    def pocketat(self, place, h):
        if place not in range(len(self.pockets)):
            return [-6]
        if h not in range(20):
            return [-1]
        weights, given, c, had = self.pockets[place]
        return [c, weights[h], sum(weights.values()), given, had[h]]

    def share(self, pot, asks):
        if len(asks) not in range(1, 21) or not all(0 <= number <= BILLION for number in [pot] + asks):
            return [-1]
        return [0] + list(ration(pot, dict(enumerate(asks))).values())

    def counts(self):
        return [self.at, self.gate, len(self.rows), len(self.pockets)]


def random_call(source, scale, holders, there):
    def odd(usual):
        """Now and then a number that is likely out of its range."""
        return source.choice((-1, 0, 4, 5, 20, BILLION + 1, 10 ** 6 + 1)) if source.random() < 0.02 else usual

    c = odd(source.randrange(4))
    h = odd(source.randrange(holders))
    few = odd(source.randint(1, scale))
    calls = [
        ("class", c, odd(source.choice((1, 20000, 100000, 333333, 700000, 10 ** 6))), odd(source.randrange(2))),
        ("fund", odd(source.choice((1, 1000, 50000, 200000, 800000, 10 ** 6)))),
        ("create", c, h, odd(source.randint(1, 5 * scale))),
        ("transfer", c, h, odd(source.randrange(holders)), few),
        ("request", c, h, few, odd(source.randrange(2))),
        ("withdraw", odd(source.randrange(40)), odd(source.randint(1, scale // 3 + 1))),
        ("suspend", c, odd(0 if source.random() < 0.7 else 1)),
        ("stock", c, odd(source.randrange(5)), odd(source.randint(0, scale * 3))),
        ("point", [odd(source.choice((1, 2, 3, 10, 77, 100000)) if k in there else 0) for k in range(4)]),
        ("pocket", c),
        ("release", odd(source.randrange(3)), few),
        ("payout", h),
        ("clear",),
        ("holding", c, h),
        ("requestat", odd(source.randrange(40))),
        ("waits", c),
        ("money", h),
        ("things", h),
        ("classinfo", c),
        ("stockat", c),
        ("pocketat", odd(source.randrange(3)), h),
        ("share", few, [odd(source.randint(0, scale)) for k in range(source.choice((0, 1, 2, 3, 5, 20, 21)))]),
        ("counts",),
    ]
    weights = (10, 10, 60, 30, 120, 20, 10, 30, 60, 10, 30, 20, 1) + (10,) * 10
    return source.choices(calls, weights)[0]


def all_told(model):
    """Calls that tell all of a house, just beyond its edges too."""
    calls = [("counts",)]
    for h in range(-1, 21):
        calls += [("money", h), ("things", h)]
    for c in range(-1, 5):
        calls += [("waits", c), ("classinfo", c), ("stockat", c)] + [("holding", c, h) for h in range(-1, 21)]
    calls += [("requestat", place) for place in range(-1, len(model.rows) + 1)]
    for place in range(-1, len(model.pockets) + 1):
        calls += [("pocketat", place, h) for h in range(-1, 21)]
    return calls


class AgainstModel(unittest.TestCase):
    def run_line(self, seed):
        """Call by call on one house, and then as a whole line from the beginning."""
        source = random.Random(seed)
        scale = source.choice((3, 12, 60, 1000, 10 ** 8))
        holders = source.choice((1, 2, 5, 20))
        house = House()
        model = Model()
        calls = []
        given = []
        firsts = [("class", c, source.choice((100000, 300000, 10 ** 6)), source.randrange(2))
                  for c in range(4) if source.random() < 0.8]
        for turn in range(150):
            call = firsts.pop() if firsts else random_call(source, scale, holders, model.terms)
            calls.append(call)
            given += ask_house(house, call)
            self.assertEqual(given[-1], model.answer(call), (seed, call))
            self.check(house, model)
        told = all_told(model)
        self.assertEqual(ask_house(house, *told), [model.answer(call) for call in told], seed)
        self.assertEqual(ask(*calls), given, seed)

    def check(self, house, model):
        """What must be after every call, told or not."""
        for h, holder in enumerate(house.holders):
            self.assertEqual([holder.owed, holder.out], model.money(h))
            self.assertEqual(holder.got, model.things(h))
        for c in model.terms:
            fund_class = house.classes[c]
            self.assertEqual(fund_class.units, [model.units[c, h] for h in range(20)])
            self.assertEqual(fund_class.stock, model.stockat(c))
            self.assertEqual(fund_class.created - fund_class.cancelled, fund_class.in_issue())
            self.assertGreaterEqual(min(house.unlocked(c, h) for h in range(20)), 0)
        self.assertEqual([request.waiting() for request in house.requests], [row["left"] for row in model.rows])

    def test_random_lines(self):
        for seed in range(60):
            self.run_line(seed)
