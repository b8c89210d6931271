"""The calls that change something; each answers a list of numbers. A refusal is one number and changes nothing."""

from fundgates.house import HOLDERS, FundClass, Pocket, Request
from fundgates.points import do_point
from fundgates.ranges import BILLION, NO_CLASS, NOT_THERE, OUT_OF_RANGE, SUSPENDED, TOO_FEW, TOO_MANY
from fundgates.ranges import are_prices, is_amount, is_class_number, is_holder, is_limit, is_positive_amount, is_thing
from fundgates.ranges import is_yes_or_no
from fundgates.sharing import divide

MOST_GIVEN = 1000000000000
MOST_REQUESTS = 200
MOST_POCKETS = 20


def call_clear(house):
    house.begin()
    return [0]


def call_class(house, c, limit, way):
    if not (is_class_number(c) and is_limit(limit) and is_yes_or_no(way)):
        return [OUT_OF_RANGE]
    if not house.has_class(c):
        house.classes[c] = FundClass(limit, way)
        return [0]
    fund_class = house.classes[c]
    fund_class.limit = limit
    fund_class.way = way
    return [1]


def call_fund(house, limit):
    if not is_limit(limit):
        return [OUT_OF_RANGE]
    before = house.limit
    house.limit = limit
    return [before]


def call_create(house, c, h, units):
    if not house.has_class(c):
        return [NO_CLASS]
    if not (is_holder(h) and is_positive_amount(units)):
        return [OUT_OF_RANGE]
    if house.in_issue(c) + units > BILLION:
        return [TOO_MANY]
    fund_class = house.classes[c]
    fund_class.units[h] += units
    fund_class.created += units
    return [fund_class.units[h]]


def call_transfer(house, c, from_holder, to_holder, units):
    if not house.has_class(c):
        return [NO_CLASS]
    both = is_holder(from_holder) and is_holder(to_holder) and from_holder != to_holder
    if not (both and is_positive_amount(units)):
        return [OUT_OF_RANGE]
    if house.unlocked(c, from_holder) < units:
        return [TOO_FEW]
    fund_class = house.classes[c]
    fund_class.units[from_holder] -= units
    fund_class.units[to_holder] += units
    return [fund_class.units[from_holder]]


def call_request(house, c, h, units, kind):
    if not house.has_class(c):
        return [NO_CLASS]
    if not (is_holder(h) and is_positive_amount(units) and is_yes_or_no(kind)):
        return [OUT_OF_RANGE]
    if len(house.requests) >= MOST_REQUESTS:
        return [TOO_MANY]
    if house.unlocked(c, h) < units:
        return [TOO_FEW]
    place = len(house.requests)
    house.requests.append(Request(c, h, house.point, kind, units))
    return [place]


def call_withdraw(house, place, units):
    if not house.has_request(place):
        return [NOT_THERE]
    if not is_positive_amount(units):
        return [OUT_OF_RANGE]
    request = house.requests[place]
    if house.classes[request.c].suspended == 1:
        return [SUSPENDED]
    if request.waiting() < units:
        return [TOO_FEW]
    request.taken_back += units
    return [request.waiting()]


def call_suspend(house, c, on):
    if not house.has_class(c):
        return [NO_CLASS]
    if not is_yes_or_no(on):
        return [OUT_OF_RANGE]
    fund_class = house.classes[c]
    before = fund_class.suspended
    fund_class.suspended = on
    return [before]


def call_stock(house, c, thing, amount):
    if not house.has_class(c):
        return [NO_CLASS]
    if not (is_thing(thing) and is_amount(amount)):
        return [OUT_OF_RANGE]
    stock = house.classes[c].stock
    if stock[thing] + amount > BILLION:
        return [TOO_MANY]
    stock[thing] += amount
    return [stock[thing]]


def call_point(house, prices):
    if not are_prices(house, prices):
        return [OUT_OF_RANGE]
    before = house.point
    return [before] + do_point(house, prices)


def call_pocket(house, c):
    if not house.has_class(c):
        return [NO_CLASS]
    if len(house.pockets) >= MOST_POCKETS:
        return [TOO_MANY]
    if house.in_issue(c) == 0:
        return [TOO_FEW]
    place = len(house.pockets)
    # A copy: the pocket stays with those who held units on this day.
    house.pockets.append(Pocket(c, list(house.classes[c].units)))
    return [place]


def call_release(house, place, money):
    if not house.has_pocket(place):
        return [NOT_THERE]
    if not is_positive_amount(money):
        return [OUT_OF_RANGE]
    pocket = house.pockets[place]
    if pocket.given + money > MOST_GIVEN:
        return [TOO_MANY]
    before = divide(pocket.given, pocket.units)
    pocket.given += money
    after = divide(pocket.given, pocket.units)
    parts = [after[h] - before[h] for h in range(HOLDERS)]
    for holder, part in zip(house.holders, parts):
        holder.owed += part
    return [pocket.given] + parts


def call_payout(house, h):
    if not is_holder(h):
        return [OUT_OF_RANGE]
    holder = house.holders[h]
    money = holder.owed
    holder.out += money
    holder.owed = 0
    return [money]


# The calls 0 to 12, in the order of their numbers.
CALLS = (
    call_clear,
    call_class,
    call_fund,
    call_create,
    call_transfer,
    call_request,
    call_withdraw,
    call_suspend,
    call_stock,
    call_point,
    call_pocket,
    call_release,
    call_payout,
)
