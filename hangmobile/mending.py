"""What a mobile that tips lacks, and its least mend."""

from hangmobile.deeds import done
from hangmobile.level import hefts, pulls, tipping
from hangmobile.ratios import minus, over, plus
from hangmobile.things import Weight, rod_at, weight_at


def lacking(rod, end, left_pull, right_pull):
    """How much more heft at the end l or r would level the rod."""
    if end == "l":
        return over(minus(right_pull, left_pull), rod.left_arm)
    return over(minus(left_pull, right_pull), rod.right_arm)


def wants_of(told, mobile, place):
    amount = weight_at(mobile, place).amount
    found = []
    for above, left_pull, right_pull in told:
        # No rod hangs at the weight's own place, so each beginning that is a rod's place is shorter.
        if place.startswith(above):
            more = lacking(mobile.at(above), place[len(above)], left_pull, right_pull)
            found.append((above, plus(amount, more)))
    return found


def wants(mobile, place):
    return wants_of(pulls(mobile), mobile, place)


def way_to(place):
    return [place[:length] for length in range(len(place))]


def fitting_of(told, mobile, place):
    amount = weight_at(mobile, place).amount
    tipping_rods = tipping(told)
    if tipping_rods == []:
        return amount
    # Another amount tips each level rod on the way, and levels none beside the way.
    if tipping_rods != way_to(place):
        return None
    amounts = [wanted for above, wanted in wants_of(told, mobile, place)]
    if amounts.count(amounts[0]) < len(amounts):
        return None
    return amounts[0]


def fitting(mobile, place):
    return fitting_of(pulls(mobile), mobile, place)


def levelling(left_pull, right_pull, heft):
    # A shift to the right by far takes far times the rod's whole heft from what the right pull is above the left.
    return over(minus(right_pull, left_pull), heft)


def shift_for(mobile, place):
    rod = rod_at(mobile, place)
    # The rod is the top of the mobile that hangs at its place, so its own pulls are told first.
    top = pulls(rod)[0]
    return levelling(top[1], top[2], rod.heft())


def shifts_of(told, mobile):
    heft_at = hefts(mobile)
    found = []
    for place, left_pull, right_pull in told:
        if left_pull != right_pull:
            found.append(("shift", place, levelling(left_pull, right_pull, heft_at[place])))
    return found


def mends(mobile):
    told = pulls(mobile)
    if tipping(told) == []:
        return []
    for place in mobile.places():
        if isinstance(mobile.at(place), Weight):
            amount = fitting_of(told, mobile, place)
            if amount is not None:
                return [("put", place, amount)]
    return shifts_of(told, mobile)


def mended(mobile):
    changed = mobile
    for deed in mends(mobile):
        changed = done(changed, deed)
    return changed
