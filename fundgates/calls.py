"""The calls: each answers a list of numbers; a refusal is its number alone, and changes nothing."""

from fundgates.house import CLASSES, HOLDERS, MILLION, THINGS, FundClass, Pocket, Request
from fundgates.points import do_point
from fundgates.sharing import divide

OUT_OF_RANGE = -1
NO_CLASS = -2
TOO_MANY = -3
TOO_FEW = -5
NOT_THERE = -6
SUSPENDED = -7

MOST_UNITS = 1000000000
MOST_STOCK = 1000000000
MOST_MONEY = 1000000000
MOST_GIVEN = 1000000000000
MOST_PRICE = 100000
MOST_REQUESTS = 200
MOST_POCKETS = 20


def is_holder(h):
    return 0 <= h < HOLDERS


def is_limit(limit):
    return 1 <= limit <= MILLION


def is_units(units):
    return 1 <= units <= MOST_UNITS


def is_yes_or_no(number):
    return 0 <= number <= 1


def is_price(house, c, price):
    if house.has_class(c):
        return 1 <= price <= MOST_PRICE
    return price == 0


def call_clear(house):
    house.begin()
    return [0]


def call_class(house, c, limit, way):
    if not (0 <= c < CLASSES and is_limit(limit) and is_yes_or_no(way)):
        return [OUT_OF_RANGE]
    if not house.has_class(c):
        house.classes[c] = FundClass(limit, way)
        return [0]
    fund_class = house.classes[c]
    fund_class.limit = limit
    fund_class.way = way
    return [1]


def call_fund(house, limit):
    if not is_limit(limit):
        return [OUT_OF_RANGE]
    before = house.limit
    house.limit = limit
    return [before]


def call_create(house, c, h, units):
    if not house.has_class(c):
        return [NO_CLASS]
    if not (is_holder(h) and is_units(units)):
        return [OUT_OF_RANGE]
    if house.in_issue(c) + units > MOST_UNITS:
        return [TOO_MANY]
    fund_class = house.classes[c]
    fund_class.units[h] += units
    fund_class.created += units
    return [fund_class.units[h]]


def call_transfer(house, c, from_holder, to_holder, units):
    if not house.has_class(c):
        return [NO_CLASS]
    if not (is_holder(from_holder) and is_holder(to_holder) and from_holder != to_holder and is_units(units)):
        return [OUT_OF_RANGE]
    if house.unlocked(c, from_holder) < units:
        return [TOO_FEW]
    fund_class = house.classes[c]
    fund_class.units[from_holder] -= units
    fund_class.units[to_holder] += units
    return [fund_class.units[from_holder]]


def call_request(house, c, h, units, kind):
    if not house.has_class(c):
        return [NO_CLASS]
    if not (is_holder(h) and is_units(units) and is_yes_or_no(kind)):
        return [OUT_OF_RANGE]
    if len(house.requests) >= MOST_REQUESTS:
        return [TOO_MANY]
    if house.unlocked(c, h) < units:
        return [TOO_FEW]
    place = len(house.requests)
    house.requests.append(Request(c, h, house.point, kind, units))
    return [place]


def call_withdraw(house, place, units):
    if not 0 <= place < len(house.requests):
        return [NOT_THERE]
    if not is_units(units):
        return [OUT_OF_RANGE]
    request = house.requests[place]
    if house.classes[request.c].suspended == 1:
        return [SUSPENDED]
    if request.waiting() < units:
        return [TOO_FEW]
    request.taken_back += units
    return [request.waiting()]


def call_suspend(house, c, on):
    if not house.has_class(c):
        return [NO_CLASS]
    if not is_yes_or_no(on):
        return [OUT_OF_RANGE]
    fund_class = house.classes[c]
    before = fund_class.suspended
    fund_class.suspended = on
    return [before]


def call_stock(house, c, thing, amount):
    if not house.has_class(c):
        return [NO_CLASS]
    if not (0 <= thing < THINGS and 0 <= amount <= MOST_STOCK):
        return [OUT_OF_RANGE]
    stock = house.classes[c].stock
    if stock[thing] + amount > MOST_STOCK:
        return [TOO_MANY]
    stock[thing] += amount
    return [stock[thing]]


def call_point(house, prices):
    if len(prices) != CLASSES:
        return [OUT_OF_RANGE]
    for c, price in enumerate(prices):
        if not is_price(house, c, price):
            return [OUT_OF_RANGE]
    before = house.point
    return [before] + do_point(house, prices)


def call_pocket(house, c):
    if not house.has_class(c):
        return [NO_CLASS]
    if len(house.pockets) >= MOST_POCKETS:
        return [TOO_MANY]
    if house.in_issue(c) == 0:
        return [TOO_FEW]
    place = len(house.pockets)
    # A copy: the pocket stays with those who held units on this day.
    house.pockets.append(Pocket(c, list(house.classes[c].units)))
    return [place]


def call_release(house, place, money):
    if not 0 <= place < len(house.pockets):
        return [NOT_THERE]
    if not 1 <= money <= MOST_MONEY:
        return [OUT_OF_RANGE]
    pocket = house.pockets[place]
    if pocket.given + money > MOST_GIVEN:
        return [TOO_MANY]
    before = divide(pocket.given, pocket.units)
    pocket.given += money
    after = divide(pocket.given, pocket.units)
    parts = [after[h] - before[h] for h in range(HOLDERS)]
    for holder, part in zip(house.holders, parts):
        holder.owed += part
    return [pocket.given] + parts


# In the order of the calls' numbers.
CALLS = (
    call_clear,
    call_class,
    call_fund,
    call_create,
    call_transfer,
    call_request,
    call_withdraw,
    call_suspend,
    call_stock,
    call_point,
    call_pocket,
    call_release,
)
