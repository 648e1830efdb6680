"""What hangs: weights, and rods with a mobile at each end."""

from hangmobile.errors import NoNumber, NoPlace
from hangmobile.ratios import plus, under

NOUGHT = (0, 1)


def check_above_nought(number):
    if not under(NOUGHT, number):
        raise NoNumber("an amount or an arm is not above 0")


class Hung:
    pass


class Weight(Hung):
    def __init__(self, amount):
        check_above_nought(amount)
        self.amount = amount

    def heft(self):
        return self.amount

    def places(self, ahead=""):
        return [ahead]

    def at(self, place):
        if place != "":
            raise NoPlace("nothing hangs below a weight")
        return self


class Rod(Hung):
    def __init__(self, left_arm, left, right_arm, right):
        check_above_nought(left_arm)
        check_above_nought(right_arm)
        self.left_arm = left_arm
        self.left = left
        self.right_arm = right_arm
        self.right = right

    def heft(self):
        return plus(self.left.heft(), self.right.heft())

    def places(self, ahead=""):
        return [ahead] + self.left.places(ahead + "l") + self.right.places(ahead + "r")

    def at(self, place):
        if place == "":
            return self
        if place[0] == "l":
            return self.left.at(place[1:])
        if place[0] == "r":
            return self.right.at(place[1:])
        raise NoPlace("a place has no other signs than l and r")


def weight_at(mobile, place):
    thing = mobile.at(place)
    if not isinstance(thing, Weight):
        raise NoPlace("no weight hangs at the place")
    return thing


def rod_at(mobile, place):
    thing = mobile.at(place)
    if not isinstance(thing, Rod):
        raise NoPlace("no rod hangs at the place")
    return thing
