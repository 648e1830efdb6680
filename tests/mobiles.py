"""Mobiles that several tests hang up."""

from hangmobile.things import Rod, Weight

ONE = (1, 1)


def weights(count):
    return [Weight((number, 1)) for number in range(1, count + 1)]


def even(hung):
    """A mobile as flat as can be, of the things from left to right."""
    if len(hung) == 1:
        return hung[0]
    middle = len(hung) // 2
    return Rod(ONE, even(hung[:middle]), ONE, even(hung[middle:]))


def row_to_left(hung):
    """Each rod hangs from the left end of the rod above it."""
    mobile = hung[0]
    for thing in hung[1:]:
        mobile = Rod(ONE, mobile, ONE, thing)
    return mobile


def row_to_right(hung):
    """Each rod hangs from the right end of the rod above it."""
    mobile = hung[0]
    for thing in hung[1:]:
        mobile = Rod(ONE, thing, ONE, mobile)
    return mobile


def picture(mobile):
    """All that a mobile holds, as plain tuples that can be compared."""
    if isinstance(mobile, Weight):
        return ("weight", mobile.amount)
    return ("rod", mobile.left_arm, picture(mobile.left), mobile.right_arm, picture(mobile.right))
