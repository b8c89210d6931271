"""A point: how much might go of each class, who is paid, and what they are paid with."""

from fundgates.house import CLASSES, HOLDERS, MILLION
from fundgates.sharing import share


def do_point(house, prices):
    """Does a point; answers for each class how many units might go and how many went."""
    going = might_go(house, prices)
    answer = []
    for c in range(CLASSES):
        payments = class_payments(house, c, going[c])
        settle(house, c, prices[c], payments)
        answer.append(going[c])
        answer.append(units_paid(payments))
    house.point += 1
    return answer


def own_cap(house, c):
    """How many units of class c its own limit lets go."""
    issue = house.in_issue(c)
    if issue == 0 or house.classes[c].suspended == 1:
        return 0
    return max(1, issue * house.classes[c].limit // MILLION)


def wanted_units(house, c):
    return min(own_cap(house, c), house.waiting(c))


def fund_pot(house, prices):
    """How much money the fund's limit lets go; suspended classes count in it like the others."""
    worth = sum([house.in_issue(c) * prices[c] for c in range(CLASSES)])
    return max(1, worth * house.limit // MILLION)


def might_go(house, prices):
    """For each class how many units might go."""
    wanted = [wanted_units(house, c) for c in range(CLASSES)]
    asks = [wanted[c] * prices[c] for c in range(CLASSES)]
    # If the pot is enough each part is all that is asked, and so the units come out as wanted.
    parts = share(fund_pot(house, prices), asks)
    return [units_for(parts[c], prices[c], wanted[c]) for c in range(CLASSES)]


def units_for(part, price, wanted):
    """How many units might go for a class's part of the fund's pot."""
    if wanted == 0:
        return 0
    return min(wanted, max(1, part // price))


def class_payments(house, c, going):
    """The waiting requests of class c, each with how many of its units are paid, as pairs."""
    payments = []
    left = going
    for requests in sharings(house, c):
        shared = share_among(requests, left)
        left -= units_paid(shared)
        payments.extend(shared)
    return payments


def sharings(house, c):
    """The waiting requests of class c in the lists that share one behind another."""
    requests = house.waiting_requests(c)
    if len(requests) == 0:
        return []
    if house.classes[c].way == 0:
        return [requests]
    by_point = {}
    for request in requests:
        by_point.setdefault(request.point, []).append(request)
    return [by_point[point] for point in sorted(by_point)]


def share_among(requests, pot):
    """Shares units among the holders, then each holder's part among their requests; answers pairs."""
    asks = [0] * HOLDERS
    for request in requests:
        asks[request.holder] += request.waiting()
    parts = share(pot, asks)
    payments = []
    for request in requests:
        units = min(parts[request.holder], request.waiting())
        parts[request.holder] -= units
        payments.append((request, units))
    return payments


def units_paid(payments):
    return sum([units for request, units in payments])


def settle(house, c, price, payments):
    """Cancels what is paid, and gives the holders money or things for it."""
    if len(payments) == 0:
        return
    fund_class = house.classes[c]
    # Kept from before the first payment: all requests in kind reckon with the point's beginning.
    stock = list(fund_class.stock)
    issue = fund_class.in_issue()
    for request, units in payments:
        request.paid += units
        fund_class.units[request.holder] -= units
        fund_class.cancelled += units
        holder = house.holders[request.holder]
        if request.in_kind == 1:
            hand_over(fund_class, holder, [amount * units // issue for amount in stock])
        else:
            holder.owed += units * price


def hand_over(fund_class, holder, amounts):
    for thing, amount in enumerate(amounts):
        fund_class.stock[thing] -= amount
        holder.got[thing] += amount
