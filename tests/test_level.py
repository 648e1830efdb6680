import unittest
from fractions import Fraction

from hangmobile.level import drawn, first_tipping, hangs_level, pulls
from hangmobile.ratios import times
from hangmobile.things import Rod, Weight
from mobiles import (LARGE, ONE, all_mobiles, even, hung_as, is_fraction, levelled, many_figures, picture, picture_at,
                     picture_with, pulls_of, rod_places, row_to_left, row_to_right, shared_mobiles, sixty_four,
                     tipping_of, told, weight_places, weights)

PAIR = Rod((1, 1), Weight((2, 1)), (1, 1), Weight((2, 1)))
EXAMPLE = Rod((2, 1), Weight((3, 1)), (3, 2), PAIR)
TIPPING = Rod((1, 2), Rod((3, 1), Weight((1, 3)), (5, 1), Weight((1, 6))), (1, 1), Weight((4, 1)))


def with_longer_left_arm(mobile, place):
    """As the mobile, but for the left arm of the rod at the place."""
    drawing = picture(mobile)
    rod = picture_at(drawing, place)
    longer = told(Fraction(*rod[1]) + Fraction(1, LARGE))
    return hung_as(picture_with(drawing, place, (rod[0], longer) + rod[2:]))


class Pulls(unittest.TestCase):
    def test_of_a_weight_alone(self):
        for amount in [(1, 1), (2, 3), (LARGE, 2), (1, LARGE)]:
            self.assertEqual(pulls(Weight(amount)), [])

    def test_written_out(self):
        self.assertEqual(pulls(PAIR), [("", (2, 1), (2, 1))])
        self.assertEqual(pulls(EXAMPLE), [("", (6, 1), (6, 1)), ("r", (2, 1), (2, 1))])
        self.assertEqual(pulls(TIPPING), [("", (1, 4), (4, 1)), ("l", (1, 1), (5, 6))])

    def test_the_left_one_stands_ahead_of_the_right_one(self):
        rod = Rod((2, 1), Weight((3, 1)), (5, 1), Weight((7, 1)))
        self.assertEqual(pulls(rod), [("", (6, 1), (35, 1))])

    def test_of_sixty_four_in_rows(self):
        wanted = [("l" * depth, ((63 - depth) * (64 - depth) // 2, 1), (64 - depth, 1)) for depth in range(63)]
        self.assertEqual(pulls(row_to_left(weights(64))), wanted)
        wanted = [("r" * depth, right, left) for depth, (place, left, right) in enumerate(wanted)]
        self.assertEqual(pulls(row_to_right(weights(64))), wanted)

    def test_of_sixty_four_even(self):
        told_pulls = pulls(even(weights(64)))
        self.assertEqual(len(told_pulls), 63)
        self.assertEqual(told_pulls[:2], [("", (528, 1), (1552, 1)), ("l", (136, 1), (392, 1))])
        self.assertEqual(told_pulls[-1], ("rrrrr", (63, 1), (64, 1)))

    def test_of_all(self):
        for mobile in all_mobiles():
            told_pulls = pulls(mobile)
            self.assertIs(type(told_pulls), list)
            wanted = [(place, told(left), told(right)) for place, left, right in pulls_of(picture(mobile))]
            self.assertEqual(told_pulls, wanted)
            for one in told_pulls:
                self.assertIs(type(one), tuple)
                self.assertTrue(is_fraction(one[1]) and is_fraction(one[2]))

    def test_one_for_each_rod_in_the_order_of_places(self):
        for mobile in all_mobiles():
            self.assertEqual([place for place, left, right in pulls(mobile)], rod_places(mobile))

    def test_each_is_its_arm_times_the_heft_there(self):
        for mobile in all_mobiles():
            for place, left, right in pulls(mobile):
                rod = mobile.at(place)
                self.assertEqual(left, times(rod.left_arm, rod.left.heft()))
                self.assertEqual(right, times(rod.right_arm, rod.right.heft()))

    def test_somewhat_beyond_sixty_four(self):
        for shape in (even, row_to_left, row_to_right):
            self.assertEqual(len(pulls(shape(weights(100)))), 99)


class Tipping(unittest.TestCase):
    def assert_first(self, mobile, place):
        self.assertEqual(first_tipping(mobile), place)
        self.assertIs(hangs_level(mobile), False)

    def assert_level(self, mobile):
        self.assertIsNone(first_tipping(mobile))
        self.assertIs(hangs_level(mobile), True)

    def test_a_weight_alone_hangs_level(self):
        self.assert_level(Weight((1, 1)))
        self.assert_level(Weight((LARGE, 2)))

    def test_written_out(self):
        self.assert_level(PAIR)
        self.assert_level(EXAMPLE)
        self.assert_first(TIPPING, "")
        self.assert_first(Rod((1, 1), Weight((1, 1)), (1, 1), Weight((2, 1))), "")
        self.assert_first(Rod((1, 1), Weight((2, 1)), (1, 1), Weight((1, 1))), "")

    def test_below_a_level_top(self):
        lower = Rod((1, 1), Weight((1, 1)), (1, 1), Weight((3, 1)))
        self.assert_first(Rod((1, 1), lower, (1, 1), Weight((4, 1))), "l")
        self.assert_first(Rod((1, 1), Weight((4, 1)), (1, 1), lower), "r")
        self.assert_first(Rod((1, 1), lower, (1, 1), lower), "l")
        self.assert_first(Rod((1, 1), PAIR, (1, 1), lower), "r")

    def test_each_rod_of_a_level_mobile_by_itself(self):
        for mobile in sixty_four() + shared_mobiles():
            level = levelled(mobile)
            self.assert_level(level)
            places = rod_places(level)
            # The top, some in the middle, and the last one.
            for place in places[::9] + places[-1:]:
                self.assert_first(with_longer_left_arm(level, place), place)

    def test_the_first_of_two(self):
        for mobile in sixty_four()[2::3]:
            places = rod_places(mobile)
            for one, other in [(0, 62), (0, 1), (30, 31), (20, 62), (61, 62)]:
                tipping = with_longer_left_arm(with_longer_left_arm(mobile, places[other]), places[one])
                self.assert_first(tipping, places[one])

    def test_of_all(self):
        for mobile in all_mobiles():
            tipping = tipping_of(picture(mobile))
            if tipping:
                self.assert_first(mobile, tipping[0])
            else:
                self.assert_level(mobile)

    def test_exactly(self):
        self.assertEqual([hangs_level(mobile) for mobile in many_figures()], [True, False, True, False])

    def test_one_object_at_several_places(self):
        weight = Weight((5, 3))
        self.assert_level(Rod(ONE, weight, ONE, weight))
        tipping = Rod(ONE, weight, (2, 1), weight)
        self.assert_first(Rod(ONE, tipping, ONE, tipping), "l")
        self.assert_level(Rod((2, 1), weight, ONE, Rod(ONE, weight, ONE, weight)))


class Drawn(unittest.TestCase):
    def test_of_a_weight_alone(self):
        self.assertEqual(drawn(Weight((7, 3))), [("", (0, 1))])

    def test_written_out(self):
        self.assertEqual(drawn(EXAMPLE), [("", (0, 1)), ("l", (-2, 1)), ("r", (3, 2)), ("rl", (1, 2)), ("rr", (5, 2))])
        wanted = [("", (0, 1)), ("l", (-1, 2)), ("ll", (-7, 2)), ("lr", (9, 2)), ("r", (1, 1))]
        self.assertEqual(drawn(TIPPING), wanted)

    def test_a_thing_below_the_string_itself(self):
        mobile = Rod((1, 1), Rod((3, 2), Weight(ONE), (1, 1), Weight(ONE)), (1, 1), Weight(ONE))
        self.assertEqual(drawn(mobile)[3], ("lr", (0, 1)))

    def test_of_sixty_four_in_rows(self):
        far_at = dict(drawn(row_to_left(weights(64))))
        for depth in range(63):
            self.assertEqual(far_at["l" * depth], (-depth, 1))
            self.assertEqual(far_at["l" * depth + "r"], (1 - depth, 1))
        far_at = dict(drawn(row_to_right(weights(64))))
        for depth in range(63):
            self.assertEqual(far_at["r" * depth], (depth, 1))
            self.assertEqual(far_at["r" * depth + "l"], (depth - 1, 1))

    def test_one_for_each_place_in_their_order(self):
        for mobile in all_mobiles():
            places = drawn(mobile)
            self.assertIs(type(places), list)
            self.assertEqual([place for place, far in places], mobile.places())
            for one in places:
                self.assertIs(type(one), tuple)
                self.assertTrue(is_fraction(one[1]))

    def test_each_end_against_its_rod(self):
        for mobile in all_mobiles():
            far_at = {place: Fraction(*far) for place, far in drawn(mobile)}
            self.assertEqual(far_at[""], 0)
            for place in rod_places(mobile):
                rod = mobile.at(place)
                self.assertEqual(far_at[place + "l"], far_at[place] - Fraction(*rod.left_arm))
                self.assertEqual(far_at[place + "r"], far_at[place] + Fraction(*rod.right_arm))

    def test_the_sums_against_the_pulls(self):
        for mobile in all_mobiles():
            sums = self.sums(mobile)
            surplus = {place: Fraction(*right) - Fraction(*left) for place, left, right in pulls(mobile)}
            for place in rod_places(mobile):
                below = [surplus[other] for other in surplus if other.startswith(place)]
                self.assertEqual(sums[place], sum(below))
            self.assertEqual(all(each == 0 for each in sums.values()), hangs_level(mobile))

    def sums(self, mobile):
        """For each rod: the amounts, each times how much farther to the right than the rod it hangs."""
        far_at = {place: Fraction(*far) for place, far in drawn(mobile)}
        amount_at = {place: Fraction(*mobile.at(place).amount) for place in weight_places(mobile)}
        return {
            rod: sum(amount_at[place] * (far_at[place] - far_at[rod]) for place in amount_at if place.startswith(rod))
            for rod in rod_places(mobile)
        }


if __name__ == "__main__":
    unittest.main()
