"""Whether rods hang level, and how far to the right each thing hangs."""

from hangmobile.ratios import minus, plus, times
from hangmobile.things import NOUGHT, Rod


def hefts(mobile):
    found = {}
    # What hangs from a rod stands behind it in the order of places: walked backwards, each heft is reckoned once.
    for place in reversed(mobile.places()):
        thing = mobile.at(place)
        if isinstance(thing, Rod):
            found[place] = plus(found[place + "l"], found[place + "r"])
        else:
            found[place] = thing.heft()
    return found


def pulls(mobile):
    heft_at = hefts(mobile)
    told = []
    for place in mobile.places():
        thing = mobile.at(place)
        if isinstance(thing, Rod):
            left_pull = times(thing.left_arm, heft_at[place + "l"])
            right_pull = times(thing.right_arm, heft_at[place + "r"])
            told.append((place, left_pull, right_pull))
    return told


def tipping(told):
    """The places of the rods that tip, of pulls as they are told."""
    return [place for place, left_pull, right_pull in told if left_pull != right_pull]


def first_tipping(mobile):
    found = tipping(pulls(mobile))
    if found == []:
        return None
    return found[0]


def hangs_level(mobile):
    return first_tipping(mobile) is None


def far_at_end(rod, far, end):
    """How far to the right the end l or r of a rod lies that hangs that far to the right itself."""
    if end == "l":
        return minus(far, rod.left_arm)
    return plus(far, rod.right_arm)


def drawn(mobile):
    far_at = {"": NOUGHT}
    for place in mobile.places():
        if place != "":
            above = place[:-1]
            far_at[place] = far_at_end(mobile.at(above), far_at[above], place[-1])
    return list(far_at.items())
