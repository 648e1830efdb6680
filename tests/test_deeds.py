import unittest
from fractions import Fraction

from hangmobile.deeds import done
from hangmobile.errors import NoNumber, NoPlace
from hangmobile.level import pulls
from hangmobile.things import Rod, Weight
from mobiles import (LARGE, all_mobiles, not_places, picture, picture_at, picture_with, rod_places, row_to_left,
                     row_to_right, shared_mobiles, told, weight_places, weights)

NOT_ABOVE_NOUGHT = [(0, 1), (-1, 1), (-1, 2), (-LARGE, 1), (-1, LARGE)]


def uneven():
    return Rod((2, 1), Weight((3, 1)), (3, 2), Rod((1, 1), Weight((2, 1)), (4, 1), Weight((5, 2))))


class DeedTest(unittest.TestCase):
    def assert_comes(self, mobile, deed, wanted):
        """What comes of the deed is as wanted, and the mobile handed in is as before."""
        before = picture(mobile)
        self.assertEqual(picture(done(mobile, deed)), wanted)
        self.assertEqual(picture(mobile), before)

    def assert_refused(self, error, mobile, deed):
        before = picture(mobile)
        with self.assertRaises(error):
            done(mobile, deed)
        self.assertEqual(picture(mobile), before)


class Put(DeedTest):
    def test_written_out(self):
        self.assert_comes(Weight((3, 1)), ("put", "", (1, 2)), ("weight", (1, 2)))
        new = done(uneven(), ("put", "rl", (7, 3)))
        self.assertEqual([new.at(place).amount for place in ("l", "rl", "rr")], [(3, 1), (7, 3), (5, 2)])
        self.assertEqual((new.left_arm, new.right_arm), ((2, 1), (3, 2)))
        self.assertEqual((new.right.left_arm, new.right.right_arm), ((1, 1), (4, 1)))

    def test_at_each_weight(self):
        for mobile in all_mobiles():
            for place in weight_places(mobile)[::5]:
                for amount in [(1, 1), (7, 5), (1, LARGE)]:
                    wanted = picture_with(picture(mobile), place, ("weight", amount))
                    self.assert_comes(mobile, ("put", place, amount), wanted)

    def test_the_amount_that_hangs_there_already(self):
        self.assert_comes(uneven(), ("put", "rr", (5, 2)), picture(uneven()))

    def test_at_a_rod_is_refused(self):
        for mobile in all_mobiles():
            for place in rod_places(mobile)[::5]:
                for amount in [(1, 1)] + NOT_ABOVE_NOUGHT:
                    self.assert_refused(NoPlace, mobile, ("put", place, amount))

    def test_at_no_place_is_refused(self):
        for mobile in all_mobiles():
            for place in not_places(mobile):
                for amount in [(1, 1), (0, 1), (-1, 1)]:
                    self.assert_refused(NoPlace, mobile, ("put", place, amount))

    def test_an_amount_not_above_nought_is_refused(self):
        for mobile in all_mobiles():
            for place in weight_places(mobile)[::5]:
                for amount in NOT_ABOVE_NOUGHT:
                    self.assert_refused(NoNumber, mobile, ("put", place, amount))

    def test_changes_the_pulls_on_the_way_alone(self):
        for mobile in all_mobiles():
            before = pulls(mobile)
            for place in weight_places(mobile)[::5]:
                more = told(Fraction(*mobile.at(place).amount) + 1)
                behind = pulls(done(mobile, ("put", place, more)))
                changed = [old[0] for old, new in zip(before, behind, strict=True) if old != new]
                self.assertEqual(changed, [place[:length] for length in range(len(place))])


class Cut(DeedTest):
    def test_written_out(self):
        right = ("rod", (1, 1), ("weight", (2, 1)), (4, 1), ("weight", (5, 2)))
        self.assert_comes(uneven(), ("cut", "l"), right)
        self.assert_comes(uneven(), ("cut", "r"), ("weight", (3, 1)))
        self.assert_comes(uneven(), ("cut", "rl"), picture_with(picture(uneven()), "r", ("weight", (5, 2))))
        self.assert_comes(uneven(), ("cut", "rr"), picture_with(picture(uneven()), "r", ("weight", (2, 1))))

    def test_at_each_place_but_the_top(self):
        for mobile in all_mobiles():
            drawing = picture(mobile)
            for place in mobile.places()[1::4]:
                beside = place[:-1] + {"l": "r", "r": "l"}[place[-1]]
                wanted = picture_with(drawing, place[:-1], picture_at(drawing, beside))
                self.assert_comes(mobile, ("cut", place), wanted)

    def test_down_to_one_weight(self):
        for mobile, end in [(row_to_left(weights(64)), "l"), (row_to_right(weights(64)), "r")]:
            for left in range(63, 0, -1):
                mobile = done(mobile, ("cut", {"l": "r", "r": "l"}[end]))
                self.assertEqual(len(weight_places(mobile)), left)
            self.assertEqual(picture(mobile), ("weight", (1, 1)))

    def test_at_the_top_is_refused(self):
        for mobile in all_mobiles():
            self.assert_refused(NoPlace, mobile, ("cut", ""))

    def test_at_no_place_is_refused(self):
        for mobile in all_mobiles():
            for place in not_places(mobile):
                self.assert_refused(NoPlace, mobile, ("cut", place))
        self.assert_refused(NoPlace, Weight((1, 1)), ("cut", "l"))


class Shift(DeedTest):
    def shifted(self, mobile, place, far):
        rod = picture_at(picture(mobile), place)
        left_arm = told(Fraction(*rod[1]) + Fraction(*far))
        right_arm = told(Fraction(*rod[3]) - Fraction(*far))
        return picture_with(picture(mobile), place, ("rod", left_arm, rod[2], right_arm, rod[4]))

    def test_written_out(self):
        new = done(uneven(), ("shift", "", (1, 2)))
        self.assertEqual((new.left_arm, new.right_arm), ((5, 2), (1, 1)))
        new = done(uneven(), ("shift", "r", (-1, 3)))
        self.assertEqual((new.right.left_arm, new.right.right_arm), ((2, 3), (13, 3)))
        self.assertEqual((new.left_arm, new.right_arm), ((2, 1), (3, 2)))

    def test_at_each_rod(self):
        for mobile in all_mobiles():
            for place in rod_places(mobile)[::5]:
                rod = mobile.at(place)
                to_right = told(Fraction(*rod.right_arm) * Fraction(9, 10))
                to_left = told(Fraction(*rod.left_arm) * Fraction(-9, 10))
                for far in [to_right, to_left, (0, 1)]:
                    self.assert_comes(mobile, ("shift", place, far), self.shifted(mobile, place, far))

    def test_by_nought_all_stays(self):
        self.assert_comes(uneven(), ("shift", "r", (0, 1)), picture(uneven()))

    def test_an_arm_not_above_nought_is_refused(self):
        for mobile in all_mobiles():
            for place in rod_places(mobile)[::5]:
                rod = mobile.at(place)
                for more in (Fraction(0), Fraction(1, 1000), Fraction(5)):
                    to_right = told(Fraction(*rod.right_arm) + more)
                    to_left = told(-Fraction(*rod.left_arm) - more)
                    self.assert_refused(NoNumber, mobile, ("shift", place, to_right))
                    self.assert_refused(NoNumber, mobile, ("shift", place, to_left))

    def test_up_to_nought_but_not_to_it(self):
        rod = Rod((1, 1), Weight((1, 1)), (1, 1), Weight((1, 1)))
        for far in [(LARGE - 1, LARGE), (1 - LARGE, LARGE)]:
            self.assert_comes(rod, ("shift", "", far), self.shifted(rod, "", far))

    def test_at_a_weight_is_refused(self):
        for mobile in all_mobiles():
            for place in weight_places(mobile)[::5]:
                for far in [(0, 1), (1, 2), (LARGE, 1), (-LARGE, 1)]:
                    self.assert_refused(NoPlace, mobile, ("shift", place, far))

    def test_at_no_place_is_refused(self):
        for mobile in all_mobiles():
            for place in not_places(mobile):
                for far in [(0, 1), (LARGE, 1), (-LARGE, 1)]:
                    self.assert_refused(NoPlace, mobile, ("shift", place, far))

    def test_changes_the_pulls_of_its_own_rod_alone(self):
        for mobile in all_mobiles():
            before = pulls(mobile)
            for place in rod_places(mobile)[::5]:
                far = told(Fraction(*mobile.at(place).right_arm) / 2)
                behind = pulls(done(mobile, ("shift", place, far)))
                changed = [old[0] for old, new in zip(before, behind, strict=True) if old != new]
                self.assertEqual(changed, [place])


class Shared(DeedTest):
    def test_one_weight_at_both_ends(self):
        weight = Weight((3, 1))
        rod = Rod((1, 1), weight, (1, 1), weight)
        new = done(rod, ("put", "r", (5, 1)))
        self.assertEqual((new.left.amount, new.right.amount), ((3, 1), (5, 1)))
        self.assertEqual((rod.left.amount, rod.right.amount, weight.amount), ((3, 1),) * 3)

    def test_one_rod_at_both_ends(self):
        pair = Rod((1, 1), Weight((1, 1)), (2, 1), Weight((2, 1)))
        mobile = Rod((1, 1), pair, (1, 1), pair)
        drawing = picture(pair)
        new = done(mobile, ("shift", "l", (1, 1)))
        self.assertEqual(picture(new.left), ("rod", (2, 1), ("weight", (1, 1)), (1, 1), ("weight", (2, 1))))
        self.assertEqual(picture(new.right), drawing)
        new = done(mobile, ("cut", "rl"))
        self.assertEqual((picture(new.left), picture(new.right)), (drawing, ("weight", (2, 1))))
        self.assertEqual(picture(pair), drawing)

    def test_each_object_by_itself_stays_as_it_was(self):
        for mobile in shared_mobiles():
            parts = [mobile.at(place) for place in mobile.places()]
            before = [picture(part) for part in parts]
            for place in mobile.places():
                if isinstance(mobile.at(place), Weight):
                    done(mobile, ("put", place, (99, 1)))
                else:
                    done(mobile, ("shift", place, (1, 100)))
                if place != "":
                    done(mobile, ("cut", place))
            self.assertEqual([picture(part) for part in parts], before)


class Told(DeedTest):
    def test_each_is_a_mobile(self):
        mobile = uneven()
        self.assertIsInstance(done(mobile, ("put", "l", (1, 1))), Rod)
        self.assertIsInstance(done(mobile, ("shift", "", (1, 1))), Rod)
        self.assertIsInstance(done(mobile, ("cut", "r")), Weight)
        self.assertEqual(done(done(mobile, ("cut", "l")), ("cut", "l")).heft(), (5, 2))


if __name__ == "__main__":
    unittest.main()
