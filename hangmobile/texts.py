"""Mobiles written as text, and read again."""

from hangmobile.errors import NoText
from hangmobile.ratios import fraction
from hangmobile.things import Rod, Weight

FIGURES = "0123456789"


def fraction_shown(number):
    if number[1] == 1:
        return str(number[0])
    return str(number[0]) + "/" + str(number[1])


def shown(mobile):
    if isinstance(mobile, Weight):
        return fraction_shown(mobile.amount)
    left = fraction_shown(mobile.left_arm) + ":" + shown(mobile.left)
    right = fraction_shown(mobile.right_arm) + ":" + shown(mobile.right)
    return "[" + left + " " + right + "]"


class Reader:
    """Goes through a text once, from its first sign on; spot is the first sign not yet read."""

    def __init__(self, text):
        self.text = text
        self.spot = 0

    def at_end(self):
        return self.spot == len(self.text)

    def sees(self, sign):
        return not self.at_end() and self.text[self.spot] == sign

    def sees_figure(self):
        return not self.at_end() and self.text[self.spot] in FIGURES

    def read_sign(self, sign):
        if not self.sees(sign):
            raise NoText(f"{sign!r} does not stand where it should")
        self.spot = self.spot + 1

    def read_number(self):
        start = self.spot
        while self.sees_figure():
            self.spot = self.spot + 1
        figures = self.text[start:self.spot]
        if figures == "" or figures[0] == "0":
            raise NoText("a number is missing, or begins with 0")
        return int(figures)

    def read_fraction(self):
        top = self.read_number()
        if not self.sees("/"):
            return (top, 1)
        self.read_sign("/")
        bottom = self.read_number()
        if bottom == 1 or fraction(top, bottom) != (top, bottom):
            raise NoText("a fraction could be written shorter")
        return (top, bottom)

    def read_mobile(self):
        if self.sees("["):
            return self.read_rod()
        return Weight(self.read_fraction())

    def read_rod(self):
        self.read_sign("[")
        left_arm = self.read_fraction()
        self.read_sign(":")
        left = self.read_mobile()
        self.read_sign(" ")
        right_arm = self.read_fraction()
        self.read_sign(":")
        right = self.read_mobile()
        self.read_sign("]")
        return Rod(left_arm, left, right_arm, right)


def read(text):
    reader = Reader(text)
    mobile = reader.read_mobile()
    if not reader.at_end():
        raise NoText("something stands behind the mobile")
    return mobile
