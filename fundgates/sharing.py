"""How a pot is divided by weights, and shared among what is asked."""


def divide(pot, weights):
    """What each weight gets of the pot; nothing is given if all weights are 0."""
    together = sum(weights)
    if together == 0:
        return [0 for weight in weights]
    parts = [weight * pot // together for weight in weights]
    # Rounding down leaves fewer pieces than there are weights, so this loop is short whatever the pot.
    left = pot - sum(parts)
    while left > 0:
        parts[next_in_turn(weights, parts)] += 1
        left -= 1
    return parts


def next_in_turn(weights, parts):
    """Who has the greatest weight divided by one more than their part; of alike ones the first."""
    best = 0
    for k in range(1, len(weights)):
        # Compared crosswise: a division would round, and alike ones must be seen as alike.
        if weights[k] * (parts[best] + 1) > weights[best] * (parts[k] + 1):
            best = k
    return best


def share(pot, asks):
    """What each gets of the pot: what they ask if it is enough for all, else the pot divided by what is asked."""
    if sum(asks) <= pot:
        return list(asks)
    return divide(pot, asks)
