"""Which of some things, numbered from 0, can be come to from each other."""


def ring_numbers(followers):
    """Return for each number that of its ring, which is one of those in the ring.

    followers tells for each number those that follow it. Two numbers are in
    one ring if each can be come to from the other one; a number that cannot be
    come back to is in a ring alone.
    """
    leaders = _turned_round(followers)
    rings = [None for _ in followers]
    for ring in reversed(_leaving_order(followers)):
        waiting = [ring]
        while waiting:
            number = waiting.pop()
            if rings[number] is None:
                rings[number] = ring
                waiting.extend(leaders[number])
    return rings


def _turned_round(followers):
    """Return for each number those that it follows."""
    leaders = [[] for _ in followers]
    for number, numbers in enumerate(followers):
        for follower in numbers:
            leaders[follower].append(number)
    return leaders


def _leaving_order(followers):
    """Return the numbers in the order in which a walk that goes deep first leaves them."""
    left = []
    entered = [False for _ in followers]
    # A number waits to be entered, and then, behind those that follow it, to be left.
    waiting = [(number, False) for number in range(len(followers))]
    while waiting:
        number, leaving = waiting.pop()
        if leaving:
            left.append(number)
        elif not entered[number]:
            entered[number] = True
            waiting.append((number, True))
            waiting.extend([(follower, False) for follower in followers[number]])
    return left
