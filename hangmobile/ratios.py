"""Exact fractions: tuples (top, bottom), divided as far as can be, with the bottom from 1 on."""

from hangmobile.errors import NoNumber


def common_divisor(one, other):
    while other != 0:
        rest = one % other
        one = other
        other = rest
    return one


def fraction(top, bottom):
    if bottom == 0:
        raise NoNumber("the second number of a fraction is 0")
    divisor = common_divisor(abs(top), abs(bottom))
    if bottom < 0:
        # Dividing both by a number below 0 brings the sign up to the top.
        divisor = -divisor
    return (top // divisor, bottom // divisor)


def plus(one, other):
    return fraction(one[0] * other[1] + other[0] * one[1], one[1] * other[1])


def minus(one, other):
    return fraction(one[0] * other[1] - other[0] * one[1], one[1] * other[1])


def times(one, other):
    return fraction(one[0] * other[0], one[1] * other[1])


def over(one, other):
    # Where the other is nought the bottom comes to 0, and fraction refuses it.
    return fraction(one[0] * other[1], one[1] * other[0])


def under(one, other):
    # Both bottoms are above 0, so multiplying with them keeps the order.
    return one[0] * other[1] < other[0] * one[1]
