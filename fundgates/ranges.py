"""The refusals' numbers, and the ranges of what is handed in."""

from fundgates.house import CLASSES, HOLDERS, MILLION, THINGS

OUT_OF_RANGE = -1
NO_CLASS = -2
TOO_MANY = -3
TOO_FEW = -5
NOT_THERE = -6
SUSPENDED = -7

BILLION = 1000000000
MOST_PRICE = 100000
MOST_ASKS = 20


def is_class_number(c):
    return 0 <= c < CLASSES


def is_holder(h):
    return 0 <= h < HOLDERS


def is_thing(thing):
    return 0 <= thing < THINGS


def is_limit(limit):
    return 1 <= limit <= MILLION


def is_yes_or_no(number):
    return 0 <= number <= 1


def is_amount(amount):
    return 0 <= amount <= BILLION


def is_positive_amount(amount):
    return 1 <= amount <= BILLION


def are_prices(house, prices):
    """Whether there is one for each class, and 0 for just those that are not there."""
    if len(prices) != CLASSES:
        return False
    for c, price in enumerate(prices):
        if house.has_class(c) and not 1 <= price <= MOST_PRICE:
            return False
        if not house.has_class(c) and price != 0:
            return False
    return True


def are_asks(asks):
    return 1 <= len(asks) <= MOST_ASKS and all([is_amount(asked) for asked in asks])
