"""The calls that only tell something; each answers a list of numbers. A refusal is one number."""

from fundgates.house import HOLDERS
from fundgates.ranges import NO_CLASS, NOT_THERE, OUT_OF_RANGE, are_asks, is_amount, is_holder
from fundgates.sharing import divide, share


def tell_holding(house, c, h):
    if not house.has_class(c):
        return [NO_CLASS]
    if not is_holder(h):
        return [OUT_OF_RANGE]
    return [house.classes[c].units[h], house.locked(c, h)]


def tell_request(house, place):
    if not house.has_request(place):
        return [NOT_THERE]
    request = house.requests[place]
    return [request.c, request.holder, request.point, request.in_kind,
            request.asked, request.paid, request.taken_back, request.waiting()]


def tell_waits(house, c):
    if not house.has_class(c):
        return [NO_CLASS]
    return [house.waiting(c)] + [house.locked(c, h) for h in range(HOLDERS)]


def tell_money(house, h):
    if not is_holder(h):
        return [OUT_OF_RANGE]
    holder = house.holders[h]
    return [holder.owed, holder.out]


def tell_things(house, h):
    if not is_holder(h):
        return [OUT_OF_RANGE]
    return list(house.holders[h].got)


def tell_class(house, c):
    if not house.has_class(c):
        return [NO_CLASS]
    fund_class = house.classes[c]
    return [fund_class.in_issue(), fund_class.created, fund_class.cancelled,
            fund_class.limit, fund_class.way, fund_class.suspended]


def tell_stock(house, c):
    if not house.has_class(c):
        return [NO_CLASS]
    return list(house.classes[c].stock)


def tell_pocket(house, place, h):
    if not house.has_pocket(place):
        return [NOT_THERE]
    if not is_holder(h):
        return [OUT_OF_RANGE]
    pocket = house.pockets[place]
    # The parts of the releases add up to the holder's part of all that is given.
    parts = divide(pocket.given, pocket.units)
    return [pocket.c, pocket.units[h], sum(pocket.units), pocket.given, parts[h]]


def tell_share(house, pot, asks):
    if not (is_amount(pot) and are_asks(asks)):
        return [OUT_OF_RANGE]
    return [0] + share(pot, asks)


def tell_counts(house):
    return [house.point, house.limit, len(house.requests), len(house.pockets)]


# The calls 13 to 22, in the order of their numbers.
TELLS = (
    tell_holding,
    tell_request,
    tell_waits,
    tell_money,
    tell_things,
    tell_class,
    tell_stock,
    tell_pocket,
    tell_share,
    tell_counts,
)
