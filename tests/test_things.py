import unittest

from hangmobile.errors import NoNumber, NoPlace
from hangmobile.things import Hung, Rod, Weight
from mobiles import even, picture, row_to_left, row_to_right, weights

LARGE = 10 ** 1000 - 1
NOT_ABOVE_NOUGHT = [(0, 1), (-1, 1), (-1, 2), (-7, 3), (-LARGE, 1), (-1, LARGE)]
SHAPES = [even, row_to_left, row_to_right]


def uneven():
    """A rod with a weight to the left and a rod of two weights to the right."""
    return Rod((2, 1), Weight((3, 1)), (3, 2), Rod((1, 1), Weight((2, 1)), (1, 1), Weight((5, 2))))


class Fields(unittest.TestCase):
    def test_of_a_weight(self):
        for amount in [(1, 1), (3, 2), (1, LARGE), (LARGE, 1)]:
            self.assertEqual(Weight(amount).amount, amount)

    def test_of_a_rod(self):
        left, right = Weight((1, 1)), Weight((1, 1))
        rod = Rod((2, 1), left, (3, 2), right)
        self.assertEqual(rod.left_arm, (2, 1))
        self.assertIs(rod.left, left)
        self.assertEqual(rod.right_arm, (3, 2))
        self.assertIs(rod.right, right)

    def test_under_their_names(self):
        left, right = Weight(amount=(1, 2)), Weight((5, 1))
        rod = Rod(right=right, right_arm=(7, 1), left=left, left_arm=(1, LARGE))
        self.assertEqual((rod.left_arm, rod.right_arm), ((1, LARGE), (7, 1)))
        self.assertIs(rod.left, left)
        self.assertIs(rod.right, right)

    def test_classes(self):
        weight = Weight((1, 1))
        rod = Rod((1, 1), weight, (1, 1), weight)
        self.assertIsInstance(weight, Hung)
        self.assertIsInstance(rod, Hung)
        self.assertNotIsInstance(weight, Rod)
        self.assertNotIsInstance(rod, Weight)
        self.assertFalse(issubclass(Weight, Rod))
        self.assertFalse(issubclass(Rod, Weight))


class Refused(unittest.TestCase):
    def test_amounts(self):
        for amount in NOT_ABOVE_NOUGHT:
            with self.assertRaises(NoNumber):
                Weight(amount)

    def test_each_arm_by_itself(self):
        weight = Weight((1, 1))
        for arm in NOT_ABOVE_NOUGHT:
            with self.assertRaises(NoNumber):
                Rod(arm, weight, (1, 1), weight)
            with self.assertRaises(NoNumber):
                Rod((1, 1), weight, arm, weight)
            with self.assertRaises(NoNumber):
                Rod(arm, weight, arm, weight)


class Shared(unittest.TestCase):
    def test_one_object_at_both_ends(self):
        weight = Weight((3, 2))
        rod = Rod((1, 1), weight, (2, 1), weight)
        self.assertEqual(rod.heft(), (3, 1))
        self.assertEqual(rod.places(), ["", "l", "r"])
        self.assertIs(rod.at("l"), weight)
        self.assertIs(rod.at("r"), weight)

    def test_one_rod_at_several_depths(self):
        pair = Rod((1, 1), Weight((1, 3)), (1, 1), Weight((1, 6)))
        mobile = Rod((1, 1), pair, (1, 1), Rod((1, 1), pair, (1, 1), Weight((1, 2))))
        self.assertEqual(mobile.heft(), (3, 2))
        self.assertEqual(mobile.places(), ["", "l", "ll", "lr", "r", "rl", "rll", "rlr", "rr"])
        self.assertIs(mobile.at("l"), pair)
        self.assertIs(mobile.at("rl"), pair)

    def test_one_weight_sixty_four_times(self):
        weight = Weight((1, 64))
        for shape in SHAPES:
            mobile = shape([weight] * 64)
            self.assertEqual(mobile.heft(), (1, 1))
            self.assertEqual(len(set(mobile.places())), 127)

    def test_one_object_in_several_mobiles(self):
        weight = Weight((1, 1))
        one = Rod((1, 1), weight, (1, 1), Weight((2, 1)))
        other = Rod((1, 1), Weight((4, 1)), (1, 1), weight)
        self.assertEqual((one.heft(), other.heft()), ((3, 1), (5, 1)))
        self.assertIs(one.at("l"), other.at("r"))


class Heft(unittest.TestCase):
    def test_of_a_weight(self):
        for amount in [(1, 1), (3, 2), (1, LARGE), (LARGE, 2)]:
            self.assertEqual(Weight(amount).heft(), amount)

    def test_of_a_rod(self):
        rod = Rod((5, 1), Weight((1, 6)), (7, 1), Weight((1, 3)))
        self.assertEqual(rod.heft(), (1, 2))
        self.assertEqual(uneven().heft(), (15, 2))

    def test_of_sixty_four_weights(self):
        for shape in SHAPES:
            self.assertEqual(shape(weights(64)).heft(), (64 * 65 // 2, 1))

    def test_of_sixty_four_parts(self):
        # The amounts 1/2 - 1/3, 1/3 - 1/4 and so on come together to 1/2 - 1/66.
        parts = [Weight((1, number * (number + 1))) for number in range(2, 66)]
        for shape in SHAPES:
            self.assertEqual(shape(parts).heft(), (16, 33))

    def test_of_sixty_four_very_large_weights(self):
        for shape in SHAPES:
            self.assertEqual(shape([Weight((LARGE, 2))] * 64).heft(), (LARGE * 32, 1))
            self.assertEqual(shape([Weight((1, LARGE))] * 63 + [Weight((LARGE - 63, LARGE))]).heft(), (1, 1))


class Places(unittest.TestCase):
    def test_of_a_weight(self):
        self.assertEqual(Weight((1, 1)).places(), [""])

    def test_of_a_rod(self):
        self.assertEqual(Rod((1, 1), Weight((1, 1)), (1, 1), Weight((1, 1))).places(), ["", "l", "r"])
        self.assertEqual(uneven().places(), ["", "l", "r", "rl", "rr"])

    def test_of_an_even_mobile(self):
        wanted = [""]
        newest = [""]
        while len(newest) < 64:
            newest = [place + sign for place in newest for sign in "lr"]
            wanted = wanted + newest
        self.assertEqual(even(weights(64)).places(), sorted(wanted))

    def test_of_a_row_to_the_left(self):
        wanted = ["l" * depth for depth in range(64)] + ["l" * depth + "r" for depth in range(62, -1, -1)]
        self.assertEqual(row_to_left(weights(64)).places(), wanted)

    def test_of_a_row_to_the_right(self):
        wanted = [""]
        for depth in range(63):
            wanted = wanted + ["r" * depth + "l", "r" * (depth + 1)]
        self.assertEqual(row_to_right(weights(64)).places(), wanted)

    def test_as_sorted_texts_each_once(self):
        for shape in SHAPES:
            for count in (1, 2, 3, 7, 33, 64):
                places = shape(weights(count)).places()
                self.assertIs(type(places), list)
                self.assertEqual(len(places), 2 * count - 1)
                self.assertEqual(places, sorted(set(places)))

    def test_with_a_text_ahead(self):
        for ahead in ("l", "rl", "rrrr", "l" * 100, "x ", "~", " "):
            self.assertEqual(Weight((1, 1)).places(ahead), [ahead])
            for shape in SHAPES:
                mobile = shape(weights(64))
                wanted = [ahead + place for place in mobile.places()]
                self.assertEqual(mobile.places(ahead), wanted)
                self.assertEqual(mobile.places(ahead=ahead), wanted)

    def test_with_a_text_ahead_that_has_no_signs(self):
        self.assertEqual(Weight((1, 1)).places(""), [""])
        self.assertEqual(uneven().places(""), uneven().places())

    def test_somewhat_beyond_sixty_four(self):
        for shape in SHAPES:
            mobile = shape(weights(100))
            self.assertEqual(len(mobile.places()), 199)
            self.assertEqual(mobile.heft(), (5050, 1))


class At(unittest.TestCase):
    def test_the_top(self):
        for mobile in [Weight((1, 1)), uneven(), even(weights(64))]:
            self.assertIs(mobile.at(""), mobile)

    def test_both_ends(self):
        mobile = uneven()
        self.assertIs(mobile.at("l"), mobile.left)
        self.assertIs(mobile.at("r"), mobile.right)
        self.assertIs(mobile.at("rl"), mobile.right.left)
        self.assertIs(mobile.at("rr"), mobile.right.right)

    def test_each_place(self):
        for shape in SHAPES:
            mobile = shape(weights(64))
            for place in mobile.places():
                thing = mobile
                for sign in place:
                    thing = {"l": thing.left, "r": thing.right}[sign]
                self.assertIs(mobile.at(place), thing)

    def test_all_weights_stand_in_their_order(self):
        hung = weights(64)
        mobile = even(hung)
        found = [mobile.at(place) for place in mobile.places() if len(place) == 6]
        self.assertEqual([thing.amount for thing in found], [thing.amount for thing in hung])

    def test_behind_a_weight_is_refused(self):
        for shape in SHAPES:
            mobile = shape(weights(64))
            for place in mobile.places():
                if isinstance(mobile.at(place), Weight):
                    for more in ("l", "r", "lr", "x", " "):
                        self.assert_no_place(mobile, place + more)

    def test_too_long_is_refused(self):
        for mobile in [Weight((1, 1)), uneven()] + [shape(weights(64)) for shape in SHAPES]:
            for place in ("l" * 64, "r" * 64, "lr" * 40, "l" * 5000, "r" * 5000):
                self.assert_no_place(mobile, place)

    def test_other_signs_are_refused(self):
        for mobile in [Weight((1, 1)), uneven()] + [shape(weights(64)) for shape in SHAPES]:
            for sign in ("L", "R", "x", " ", "0", "~", "[", "left", "right", "None"):
                self.assert_no_place(mobile, sign)
                self.assert_no_place(mobile, "r" + sign)
                self.assert_no_place(mobile, sign + "l")
                self.assert_no_place(mobile, sign + "r")

    def test_each_short_text_is_a_place_or_refused(self):
        texts = [""]
        newest = [""]
        for length in range(4):
            newest = [text + sign for text in newest for sign in "lrx"]
            texts = texts + newest
        for mobile in [Weight((1, 1)), uneven(), even(weights(5)), row_to_left(weights(3))]:
            places = mobile.places()
            for text in texts:
                if text in places:
                    self.assertIsInstance(mobile.at(text), Hung)
                else:
                    self.assert_no_place(mobile, text)

    def assert_no_place(self, mobile, place):
        with self.assertRaises(NoPlace):
            mobile.at(place)


class NothingChanged(unittest.TestCase):
    def test_a_list_told_is_the_askers_own(self):
        for mobile in [Weight((1, 1)), uneven()] + [shape(weights(64)) for shape in SHAPES]:
            for ahead in ("", "lr"):
                told = mobile.places(ahead)
                wanted = list(told)
                told.append("mine")
                told[0] = "mine"
                self.assertEqual(mobile.places(ahead), wanted)
                told.clear()
                self.assertEqual(mobile.places(ahead), wanted)
                self.assertIsNot(mobile.places(ahead), mobile.places(ahead))

    def test_a_part_keeps_its_own_list(self):
        mobile = uneven()
        mobile.right.places().clear()
        mobile.places().reverse()
        self.assertEqual(mobile.right.places(), ["", "l", "r"])
        self.assertEqual(mobile.places(), ["", "l", "r", "rl", "rr"])

    def test_a_mobile_stays_as_it_was(self):
        for mobile in [Weight((1, 1)), uneven()] + [shape(weights(64)) for shape in SHAPES]:
            before = picture(mobile)
            mobile.heft()
            for place in mobile.places("r"):
                try:
                    mobile.at(place)
                except NoPlace:
                    pass
            self.assertEqual(picture(mobile), before)

    def test_what_hangs_from_a_new_rod_stays_as_it_was(self):
        left, right = uneven(), Weight((1, 1))
        before = (picture(left), picture(right))
        Rod((1, 2), left, (1, 3), right).heft()
        with self.assertRaises(NoNumber):
            Rod((0, 1), left, (1, 3), right)
        self.assertEqual((picture(left), picture(right)), before)

    def test_the_same_is_told_each_time(self):
        for shape in SHAPES:
            mobile = shape(weights(64))
            self.assertEqual(mobile.heft(), mobile.heft())
            self.assertEqual(mobile.places(), mobile.places())


if __name__ == "__main__":
    unittest.main()
