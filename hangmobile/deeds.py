"""Deeds: a weight put, a thing cut off, a string shifted."""

from hangmobile.errors import NoPlace
from hangmobile.ratios import minus, plus
from hangmobile.things import Rod, Weight, rod_at, weight_at


def hung_at(mobile, place, thing):
    """The mobile with that thing at the place: the rods on the way are new, so the old mobile stays as it is."""
    if place == "":
        return thing
    if place[0] == "l":
        return Rod(mobile.left_arm, hung_at(mobile.left, place[1:], thing), mobile.right_arm, mobile.right)
    return Rod(mobile.left_arm, mobile.left, mobile.right_arm, hung_at(mobile.right, place[1:], thing))


def put(mobile, place, amount):
    # A wrong place is refused ahead of a wrong amount.
    weight_at(mobile, place)
    return hung_at(mobile, place, Weight(amount))


def cut(mobile, place):
    if place == "":
        raise NoPlace("the top hangs from no rod")
    # A place that is none is refused here; what hangs there doesn't matter.
    mobile.at(place)
    above = place[:-1]
    rod = mobile.at(above)
    if place[-1] == "l":
        return hung_at(mobile, above, rod.right)
    return hung_at(mobile, above, rod.left)


def shift(mobile, place, far):
    rod = rod_at(mobile, place)
    shifted = Rod(plus(rod.left_arm, far), rod.left, minus(rod.right_arm, far), rod.right)
    return hung_at(mobile, place, shifted)


def done(mobile, deed):
    if deed[0] == "put":
        return put(mobile, deed[1], deed[2])
    if deed[0] == "cut":
        return cut(mobile, deed[1])
    return shift(mobile, deed[1], deed[2])
