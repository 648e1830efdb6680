import math
import re
import unittest

from hangmobile.errors import NoText
from hangmobile.mending import mended
from hangmobile.texts import read, shown
from hangmobile.things import Rod, Weight
from mobiles import (LARGE, ONE, all_mobiles, even, picture, row_to_left, row_to_right, sixty_four, small_mobiles,
                     weights)

EXAMPLE = "[2:3 3/2:[1:2 1:2]]"
# Texts have all signs from the blank to the tilde, but the percent sign (number 37).
SIGNS = [chr(number) for number in range(32, 127) if number != 37]
SMALL_TEXTS = ["7", "3/2", "10/21", "[1:2 3:4]", EXAMPLE, "[1/2:[10:3 5:6/7] 8/9:11]"]


def by_hand(text):
    """The mobile of a text by another way: split at the blank that stands outside of all inner brackets."""
    if not text.startswith("["):
        top, stroke, bottom = text.partition("/")
        return ("weight", (int(top), int(bottom or "1")))
    depth = 0
    for spot, sign in enumerate(text):
        depth = depth + (sign == "[") - (sign == "]")
        if sign == " " and depth == 1:
            left_arm, colon, left = text[1:spot].partition(":")
            right_arm, colon, right = text[spot + 1:-1].partition(":")
            return ("rod", by_hand(left_arm)[1], by_hand(left), by_hand(right_arm)[1], by_hand(right))


class Shown(unittest.TestCase):
    def test_weights(self):
        for amount, text in [((1, 1), "1"), ((10, 1), "10"), ((3, 2), "3/2"), ((1, 10), "1/10"), ((100, 7), "100/7")]:
            self.assertEqual(shown(Weight(amount)), text)

    def test_the_example(self):
        mobile = Rod((2, 1), Weight((3, 1)), (3, 2), Rod(ONE, Weight((2, 1)), ONE, Weight((2, 1))))
        self.assertEqual(shown(mobile), EXAMPLE)

    def test_rods(self):
        rod = Rod((1, 2), Weight((3, 4)), (5, 6), Weight((7, 8)))
        self.assertEqual(shown(rod), "[1/2:3/4 5/6:7/8]")
        self.assertEqual(shown(Rod(ONE, rod, (9, 1), Weight((10, 1)))), "[1:[1/2:3/4 5/6:7/8] 9:10]")
        self.assertEqual(shown(Rod(ONE, Weight((10, 1)), (9, 1), rod)), "[1:10 9:[1/2:3/4 5/6:7/8]]")

    def test_rows(self):
        self.assertEqual(shown(row_to_left(weights(4))), "[1:[1:[1:1 1:2] 1:3] 1:4]")
        self.assertEqual(shown(row_to_right(weights(4))), "[1:4 1:[1:3 1:[1:2 1:1]]]")
        wanted = "[1:" * 63 + "1" + "".join([f" 1:{number}]" for number in range(2, 65)])
        self.assertEqual(shown(row_to_left(weights(64))), wanted)

    def test_one_object_at_several_places(self):
        weight = Weight((2, 3))
        pair = Rod(ONE, weight, ONE, weight)
        self.assertEqual(shown(Rod(ONE, pair, ONE, pair)), "[1:[1:2/3 1:2/3] 1:[1:2/3 1:2/3]]")

    def test_many_figures(self):
        self.assertEqual(shown(Weight((LARGE, 1))), "9" * 1000)
        self.assertEqual(shown(Weight((1, 10 ** 999))), "1/1" + "0" * 999)
        self.assertEqual(shown(Weight((10 ** 3999, 3))), "1" + "0" * 3999 + "/3")


class ReadAgain(unittest.TestCase):
    def test_written_out(self):
        self.assertEqual(picture(read("7")), ("weight", (7, 1)))
        self.assertEqual(picture(read("10/21")), ("weight", (10, 21)))
        self.assertEqual(picture(read("[1:2 3/5:4]")), ("rod", (1, 1), ("weight", (2, 1)), (3, 5), ("weight", (4, 1))))

    def test_small_texts(self):
        for text in SMALL_TEXTS:
            self.assertEqual(picture(read(text)), by_hand(text))
            self.assertEqual(shown(read(text)), text)

    def test_kinds(self):
        self.assertIsInstance(read("1"), Weight)
        self.assertIsInstance(read(EXAMPLE), Rod)
        self.assertIsInstance(read(EXAMPLE).right, Rod)
        self.assertIs(type(read("1").amount), tuple)

    def test_each_mobile_shown_is_read_to_the_same(self):
        for mobile in all_mobiles():
            text = shown(mobile)
            self.assertIs(type(text), str)
            self.assertEqual(picture(read(text)), picture(mobile))
            self.assertEqual(shown(read(text)), text)

    def test_mended_mobiles_too(self):
        for mobile in small_mobiles() + sixty_four():
            new = mended(mobile)
            self.assertEqual(picture(read(shown(new))), picture(new))

    def test_sixty_four_brackets(self):
        for shape in (even, row_to_left, row_to_right):
            text = shown(shape(weights(65)))
            self.assertEqual(text.count("["), 64)
            self.assertEqual(shown(read(text)), text)

    def test_somewhat_beyond_sixty_four(self):
        for shape in (even, row_to_left, row_to_right):
            text = shown(shape(weights(100)))
            self.assertEqual(shown(read(text)), text)

    def test_a_thousand_figures(self):
        text = "9" * 1000 + "/1" + "0" * 999
        self.assertEqual(read(text).amount, (LARGE, 10 ** 999))
        rod = read(f"[{text}:{text} {text}:1]")
        self.assertEqual((rod.left_arm, rod.left.amount, rod.right_arm), ((LARGE, 10 ** 999),) * 3)


class Refused(unittest.TestCase):
    def assert_refused(self, text):
        with self.assertRaises(NoText, msg=text[:100]):
            read(text)

    def assert_refused_at_each_number(self, wrong):
        """The wrong number as an amount and as each arm."""
        for text in [f"{wrong}", f"[{wrong}:1 1:1]", f"[1:{wrong} 1:1]", f"[1:1 {wrong}:1]", f"[1:1 1:{wrong}]"]:
            self.assert_refused(text)

    def test_the_text_without_signs(self):
        self.assert_refused("")

    def test_numbers(self):
        self.assert_refused_at_each_number("")
        for wrong in ["0", "00", "01", "007", "0/1", "0/2", "01/2", "1/02", "1/0", "2/0", "1/1", "5/1", "1/01", "-1",
                      "+1", "1_0", "_1", "1_", "1.5", "1e3", "0x1", "1/-2", "-1/2", "1/+2", "1//2", "/2", "1/", "1/2/3",
                      " 1", "1 ", "1 /2", "1/ 2", "x", "l", "1,0", "(1)", "(1/2)", "1L", "one", "None", "True"]:
            self.assert_refused_at_each_number(wrong)

    def test_fractions_that_could_be_divided(self):
        for bottom in range(1, 30):
            for common in range(2, 8):
                self.assert_refused_at_each_number(f"{common * 5}/{common * bottom}")
        large = 10 ** 999
        self.assert_refused(f"{large}/{large}")
        self.assert_refused(f"{LARGE}/9")
        self.assert_refused(f"9/{LARGE}")

    def test_brackets(self):
        for wrong in ["[", "]", "[]", "[1]", "[1:1]", "[1:1 1:1", "1:1 1:1]", "1:1 1:1", "[[1:1 1:1]]", "[1:1 1:1]]",
                      "[1:1 1:1 1:1]", "[1:1 1:[1]]", "[[1:1 1:1]:1 1:1]", "[1:1 1:1][1:1 1:1]", "[1:1 1:1] 1", "1 1",
                      "1:1", "[1 1:1 1:]", "(1:1 1:1)", "[1:1,1:1]", "[1;1 1;1]", "[1:1  1:1]", "[ 1:1 1:1]",
                      "[1:1 1:1 ]", " [1:1 1:1]", "[1:1 1:1] ", "[1: 1 1:1]", "[1 :1 1:1]", "[1:11:1]", "[:1 1:1]"]:
            self.assert_refused(wrong)

    def test_other_blanks(self):
        # Signs beyond those that texts have are refused all the same.
        for blank in ["\t", "\n", "\r", "\x0b", "\u00a0", "_"]:
            self.assert_refused(f"[1:1{blank}1:1]")
            self.assert_refused(f"1{blank}")
            self.assert_refused(f"{blank}1")

    def test_other_figures(self):
        for figure in ["\u0661", "\u00b2", "\uff11"]:
            self.assert_refused(figure)

    def test_each_sign_less(self):
        for text in SMALL_TEXTS:
            for spot in range(len(text)):
                self.check(text[:spot] + text[spot + 1:])

    def test_each_sign_more(self):
        for text in SMALL_TEXTS:
            for spot in range(len(text) + 1):
                for sign in SIGNS:
                    self.check(text[:spot] + sign + text[spot:])

    def test_each_sign_another(self):
        for text in SMALL_TEXTS:
            for spot in range(len(text)):
                for sign in SIGNS:
                    self.check(text[:spot] + sign + text[spot + 1:])

    def test_each_beginning_and_end(self):
        for text in SMALL_TEXTS[3:] + [shown(even(weights(64)))]:
            for length in range(1, len(text)):
                self.assert_refused(text[:length])
                self.check(text[length:])

    def check(self, text):
        """A changed text is either another mobile's, and then shown just so again, or refused."""
        if self.is_mobile(text):
            self.assertEqual(picture(read(text)), by_hand(text))
            self.assertEqual(shown(read(text)), text)
        else:
            self.assert_refused(text)

    def is_mobile(self, text):
        """By another way: whether the text comes down to one sign when mobiles are folded from the inside out."""
        for top, bottom in re.findall("([0-9]+)/([0-9]+)", text):
            if int(bottom) < 2 or math.gcd(int(top), int(bottom)) > 1:
                return False
        number = "[1-9][0-9]*(?:/[1-9][0-9]*)?"
        # A folded rod stands as the sign M, which the text itself may not bring along.
        if "M" in text:
            return False
        before = None
        while text != before:
            before = text
            text = re.sub(rf"\[{number}:(?:{number}|M) {number}:(?:{number}|M)\]", "M", text)
        return re.fullmatch(f"{number}|M", text) is not None

    def test_sixty_four_brackets(self):
        for text in ["[" * 64, "]" * 64, "[1:" * 64, "[1:" * 64 + "1", "[1:1 1:" * 64, "[1:1 1:" * 64 + "1",
                     "[1:1 1:" * 64 + "1" + "]" * 63, "[1:1 1:" * 64 + "1" + "]" * 65, "[1:1 1:" * 64 + "]" * 64,
                     "[1:" * 64 + "1" + " 1:1]" * 63, "[1:" * 64 + "1" + " 1:1]" * 65, "[1:" * 64 + "0" + " 1:1]" * 64]:
            self.assert_refused(text)


if __name__ == "__main__":
    unittest.main()
