"""Mobiles that several tests hang up, and plain pictures of them to compare with."""

import itertools
import math
from fractions import Fraction

from hangmobile.things import Rod, Weight

ONE = (1, 1)
LARGE = 10 ** 1000 - 1
NUMBERS = [(1, 1), (2, 1), (1, 2), (3, 2), (7, 1), (2, 3), (5, 4), (12, 1), (10, 7), (1, 9), (3, 1)]


def weights(count):
    return [Weight((number, 1)) for number in range(1, count + 1)]


def even(hung):
    """A mobile as flat as can be, of the things from left to right."""
    if len(hung) == 1:
        return hung[0]
    middle = len(hung) // 2
    return Rod(ONE, even(hung[:middle]), ONE, even(hung[middle:]))


def row_to_left(hung):
    """Each rod hangs from the left end of the rod above it."""
    mobile = hung[0]
    for thing in hung[1:]:
        mobile = Rod(ONE, mobile, ONE, thing)
    return mobile


def row_to_right(hung):
    """Each rod hangs from the right end of the rod above it."""
    mobile = hung[0]
    for thing in hung[1:]:
        mobile = Rod(ONE, thing, ONE, mobile)
    return mobile


def picture(mobile):
    """All that a mobile holds, as plain tuples that can be compared."""
    if isinstance(mobile, Weight):
        return ("weight", mobile.amount)
    return ("rod", mobile.left_arm, picture(mobile.left), mobile.right_arm, picture(mobile.right))


def told(number):
    """A Fraction of Python's own in the form of point 4."""
    return (number.numerator, number.denominator)


def is_fraction(value):
    if type(value) is not tuple or [type(part) for part in value] != [int, int]:
        return False
    return value[1] >= 1 and math.gcd(value[0], value[1]) == 1


def picture_at(drawing, place):
    for sign in place:
        drawing = drawing[2 if sign == "l" else 4]
    return drawing


def picture_with(drawing, place, part):
    """The picture with another part at the place."""
    if place == "":
        return part
    spot = 2 if place[0] == "l" else 4
    return drawing[:spot] + (picture_with(drawing[spot], place[1:], part),) + drawing[spot + 1:]


def hung_as(drawing):
    """The mobile of a picture; no object hangs in it at several places."""
    if drawing[0] == "weight":
        return Weight(drawing[1])
    return Rod(drawing[1], hung_as(drawing[2]), drawing[3], hung_as(drawing[4]))


def heft_of(drawing):
    if drawing[0] == "weight":
        return Fraction(*drawing[1])
    return heft_of(drawing[2]) + heft_of(drawing[4])


def pulls_of(drawing, place=""):
    """The pulls in the order of places, reckoned with Python's own fractions."""
    if drawing[0] == "weight":
        return []
    left = Fraction(*drawing[1]) * heft_of(drawing[2])
    right = Fraction(*drawing[3]) * heft_of(drawing[4])
    return [(place, left, right)] + pulls_of(drawing[2], place + "l") + pulls_of(drawing[4], place + "r")


def tipping_of(drawing):
    return [place for place, left, right in pulls_of(drawing) if left != right]


def weight_places(mobile):
    return [place for place in mobile.places() if isinstance(mobile.at(place), Weight)]


def rod_places(mobile):
    return [place for place in mobile.places() if isinstance(mobile.at(place), Rod)]


def not_places(mobile):
    """Texts that are no places of the mobile: too long, with other signs, with a sign too many."""
    behind = [place + more for place in weight_places(mobile)[:3] for more in ("l", "r", "x", " ")]
    return behind + ["l" * 90, "r" * 90, "x", "L", " ", "xl", "0", "~"]


def trees(count):
    """All shapes of that many weights: None for a weight, a pair for a rod."""
    if count == 1:
        return [None]
    found = []
    for on_left in range(1, count):
        found.extend(itertools.product(trees(on_left), trees(count - on_left)))
    return found


def filled(tree, numbers):
    """A mobile of that shape, its amounts and arms taken from the numbers as they come."""
    if tree is None:
        return Weight(next(numbers))
    return Rod(next(numbers), filled(tree[0], numbers), next(numbers), filled(tree[1], numbers))


def numbers_from(start):
    return itertools.cycle(NUMBERS[start:] + NUMBERS[:start])


def levelled(mobile):
    """The mobile with other arms, so that each rod hangs level."""
    if isinstance(mobile, Weight):
        return mobile
    left, right = levelled(mobile.left), levelled(mobile.right)
    return Rod(right.heft(), left, left.heft(), right)


def small_mobiles():
    """Mobiles of one to four weights in all shapes, most of which tip."""
    found = []
    for count in range(1, 5):
        for start, tree in enumerate(trees(count)):
            found.append(filled(tree, numbers_from(start)))
            found.append(filled(tree, numbers_from(start + 5)))
    return found


def tree_of(mobile):
    return None if isinstance(mobile, Weight) else (tree_of(mobile.left), tree_of(mobile.right))


def sixty_four():
    """Mobiles of sixty-four weights: even, and in one row to the left or to the right, some level, some not."""
    found = []
    for number, shape in enumerate((even, row_to_left, row_to_right)):
        mobile = filled(tree_of(shape(weights(64))), numbers_from(number))
        found.extend([shape(weights(64)), mobile, levelled(mobile)])
    return found


def many_figures():
    """Amounts and arms of a thousand figures; the second tips by hardly anything, the third not at all."""
    large = [(LARGE, 1), (1, LARGE), (LARGE - 1, LARGE), (LARGE, LARGE - 1), (10 ** 999, 3), (3, 10 ** 999)]
    return [
        Weight((LARGE, LARGE - 1)),
        Rod(ONE, Weight((LARGE, LARGE - 1)), ONE, Weight((LARGE - 1, LARGE - 2))),
        Rod((LARGE, 2), Weight((LARGE - 1, 3)), ((LARGE - 1) // 2, 3), Weight((LARGE, 1))),
        filled(((None, None), None), itertools.cycle(large)),
    ]


def shared_mobiles():
    """One object hangs at several places in each of these."""
    weight = Weight((3, 2))
    pair = Rod((1, 1), weight, (2, 1), weight)
    level_pair = Rod((1, 2), weight, (1, 2), weight)
    return [
        pair,
        level_pair,
        Rod((1, 1), pair, (1, 1), pair),
        Rod((1, 1), level_pair, (1, 1), level_pair),
        Rod((2, 1), pair, (1, 3), Rod((1, 1), pair, (3, 1), weight)),
        Rod((1, 1), weight, (1, 3), Rod((2, 1), weight, (1, 1), level_pair)),
        even([weight] * 64),
        even([pair, level_pair] * 8),
    ]


def all_mobiles():
    small = small_mobiles()
    return small + [levelled(mobile) for mobile in small] + shared_mobiles() + many_figures() + sixty_four()
