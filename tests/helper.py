"""What the tests share: calls by their names, answers split by call, and a look at all that a house keeps."""

import unittest

from fundgates import desk
from fundgates.house import House

NUMBERS = {
    "clear": 0,
    "class": 1,
    "fund": 2,
    "create": 3,
    "transfer": 4,
    "request": 5,
    "withdraw": 6,
    "suspend": 7,
    "stock": 8,
    "point": 9,
    "pocket": 10,
    "release": 11,
    "payout": 12,
    "holding": 13,
    "requestat": 14,
    "waits": 15,
    "money": 16,
    "things": 17,
    "classinfo": 18,
    "stockat": 19,
    "pocketat": 20,
    "share": 21,
    "counts": 22,
}
BILLION = 10 ** 9
FAR = 10 ** 18


def flat(calls):
    """Calls written as ("create", 0, 0, 10) or ("point", [1, 0, 0, 0]), as the list that the desk takes."""
    numbers = []
    for call in calls:
        numbers.append(NUMBERS[call[0]])
        for part in call[1:]:
            if isinstance(part, list):
                numbers.append(len(part))
                numbers.extend(part)
            else:
                numbers.append(part)
    return numbers


def split(given):
    """The desk's list, as one list an answer."""
    each = []
    at = 0
    while at < len(given):
        end = at + 1 + given[at]
        each.append(given[at + 1:end])
        if end > len(given) or end == at + 1:
            raise ValueError("an answer is cut short or empty")
        at = end
    return each


def ask(*calls):
    """The answers to the calls on a new house."""
    return split(desk.answers(flat(calls)))


def last(*calls):
    return ask(*calls)[-1]


def ask_behind(before, *calls):
    """The answers to the calls alone that stand behind others."""
    return ask(*before, *calls)[len(before):]


def twenty(places):
    """Twenty numbers, one a holder: those told by their holders' numbers, the others 0."""
    return [places.get(h, 0) for h in range(20)]


def ask_house(house, *calls):
    return split(desk.answers_of(house, flat(calls)))


def house_after(*calls):
    house = House()
    ask_house(house, *calls)
    return house


def plain(value):
    """All that a value keeps, as lists, dicts and numbers that can be compared later."""
    if isinstance(value, list):
        return [plain(part) for part in value]
    if hasattr(value, "__dict__"):
        return {name: plain(part) for name, part in vars(value).items()}
    return value


class CallCase(unittest.TestCase):
    def assert_refused(self, before, call, refusal):
        """The call is refused with this number alone, and the house is as it was."""
        house = house_after(*before)
        kept = plain(house)
        self.assertEqual(ask_house(house, call), [[refusal]], call)
        self.assertEqual(plain(house), kept, call)

    def assert_told(self, before, call, answer):
        """The call gives this answer, also a second time, and the house is as it was."""
        house = house_after(*before)
        kept = plain(house)
        self.assertEqual(ask_house(house, call, call), [answer, answer], call)
        self.assertEqual(plain(house), kept, call)

    def assert_answer(self, before, call, answer):
        self.assertEqual(last(*before, call), answer, call)
