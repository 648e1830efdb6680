import unittest
from fractions import Fraction

from hangmobile.deeds import done
from hangmobile.errors import NoPlace
from hangmobile.level import first_tipping, hangs_level, pulls
from hangmobile.mending import fitting, mended, mends, shift_for, wants
from hangmobile.things import Rod, Weight
from mobiles import (LARGE, ONE, all_mobiles, even, is_fraction, levelled, not_places, picture, picture_at,
                     picture_with, pulls_of, rod_places, row_to_left, row_to_right, shared_mobiles, sixty_four,
                     small_mobiles, tipping_of, told, weight_places, weights)


def way_to(place):
    return [place[:length] for length in range(len(place))]


def pair(left, right):
    return Rod(ONE, Weight((left, 1)), ONE, Weight((right, 1)))


def disturbed():
    """Level mobiles in which one weight was given another amount."""
    found = []
    for mobile in [levelled(each) for each in small_mobiles()] + sixty_four()[2::3] + shared_mobiles():
        places = weight_places(mobile)
        for place in places[::7] + places[-1:]:
            amount = told(Fraction(*mobile.at(place).amount) + Fraction(1, 3))
            found.append(done(mobile, ("put", place, amount)))
    return found


class Wants(unittest.TestCase):
    def test_of_a_weight_alone(self):
        self.assertEqual(wants(Weight((5, 3)), ""), [])

    def test_above_nought_of_nought_and_below(self):
        mobile = Rod(ONE, pair(2, 3), ONE, Weight((4, 1)))
        self.assertEqual(wants(mobile, "ll"), [("", (1, 1)), ("l", (3, 1))])
        self.assertEqual(wants(mobile, "lr"), [("", (2, 1)), ("l", (2, 1))])
        self.assertEqual(wants(mobile, "r"), [("", (5, 1))])
        mobile = Rod(ONE, pair(2, 3), ONE, Weight((3, 1)))
        self.assertEqual(wants(mobile, "ll"), [("", (0, 1)), ("l", (3, 1))])
        mobile = Rod(ONE, pair(2, 3), (1, 2), Weight((3, 1)))
        self.assertEqual(wants(mobile, "ll"), [("", (-3, 2)), ("l", (3, 1))])

    def test_with_arms(self):
        mobile = Rod((2, 3), Weight((1, 1)), (5, 1), Rod((3, 1), Weight((7, 2)), (1, 2), Weight((1, 4))))
        self.assertEqual(wants(mobile, "l"), [("", (225, 8))])
        self.assertEqual(wants(mobile, "rl"), [("", (-7, 60)), ("r", (1, 24))])
        self.assertEqual(wants(mobile, "rr"), [("", (-101, 30)), ("r", (21, 1))])

    def test_from_the_top_down(self):
        for mobile in [row_to_left(weights(64)), row_to_right(weights(64)), even(weights(64))]:
            for place in weight_places(mobile):
                self.assertEqual([above for above, amount in wants(mobile, place)], way_to(place))

    def test_of_all(self):
        for mobile in all_mobiles():
            drawing = picture(mobile)
            pulls_at = {place: (left, right) for place, left, right in pulls_of(drawing)}
            for place in weight_places(mobile)[::3]:
                found = wants(mobile, place)
                self.assertIs(type(found), list)
                wanted = [(above, self.want(drawing, pulls_at, above, place)) for above in way_to(place)]
                self.assertEqual(found, wanted)
                self.assertTrue(all(type(one) is tuple and is_fraction(one[1]) for one in found))

    def want(self, drawing, pulls_at, above, place):
        """The want by its words: the other pull over the arm is the heft that levels, less what else hangs there."""
        rod = picture_at(drawing, above)
        on_left = place[len(above)] == "l"
        arm = Fraction(*rod[1 if on_left else 3])
        own, other = pulls_at[above] if on_left else pulls_at[above][::-1]
        beside = own / arm - Fraction(*picture_at(drawing, place)[1])
        return told(other / arm - beside)

    def test_the_rod_hangs_level_with_it(self):
        for mobile in small_mobiles() + shared_mobiles():
            for place in weight_places(mobile)[:8]:
                for above, amount in wants(mobile, place):
                    if amount[0] > 0:
                        self.assertNotIn(above, tipping_of(picture(done(mobile, ("put", place, amount)))))

    def test_the_lowest_wants_above_nought(self):
        for mobile in all_mobiles():
            for place in weight_places(mobile)[::5]:
                if place != "":
                    self.assertGreater(wants(mobile, place)[-1][1][0], 0)

    def test_one_object_at_several_places(self):
        weight = Weight((2, 1))
        rod = Rod(ONE, weight, (2, 1), weight)
        self.assertEqual(wants(rod, "l"), [("", (4, 1))])
        self.assertEqual(wants(rod, "r"), [("", (1, 1))])


class Fitting(unittest.TestCase):
    def test_of_a_weight_alone(self):
        for amount in [(1, 1), (5, 3), (LARGE, 2)]:
            self.assertEqual(fitting(Weight(amount), ""), amount)

    def test_written_out(self):
        self.assertEqual(fitting(pair(2, 3), "l"), (3, 1))
        self.assertEqual(fitting(pair(2, 3), "r"), (2, 1))
        mobile = Rod(ONE, pair(2, 3), ONE, Weight((4, 1)))
        self.assertEqual(fitting(mobile, "lr"), (2, 1))
        self.assertIsNone(fitting(mobile, "ll"))
        self.assertIsNone(fitting(mobile, "r"))

    def test_but_for_a_rod_beside_the_way(self):
        top = Rod(ONE, pair(2, 3), ONE, pair(2, 2))
        self.assertEqual(fitting(top, "lr"), (2, 1))
        for beside in [pair(1, 3), pair(3, 1)]:
            mobile = Rod(ONE, pair(2, 3), ONE, beside)
            self.assertEqual([amount for above, amount in wants(mobile, "lr")], [(2, 1), (2, 1)])
            self.assertIsNone(fitting(mobile, "lr"))

    def test_beside_a_rod_that_tips_below_the_other_end(self):
        self.assertIsNone(fitting(Rod(ONE, Weight((4, 1)), ONE, pair(1, 3)), "l"))
        self.assertIsNone(fitting(Rod(ONE, Weight((5, 1)), ONE, pair(1, 3)), "l"))

    def test_where_a_rod_on_the_way_hangs_level(self):
        mobile = Rod(ONE, pair(2, 2), ONE, Weight((5, 1)))
        self.assertIsNone(fitting(mobile, "ll"))
        self.assertIsNone(fitting(mobile, "lr"))
        self.assertEqual(fitting(mobile, "r"), (4, 1))

    def test_in_a_level_mobile_its_own_amount(self):
        for mobile in [levelled(each) for each in all_mobiles()]:
            for place in weight_places(mobile)[::6]:
                self.assertEqual(fitting(mobile, place), mobile.at(place).amount)

    def test_brings_a_disturbed_mobile_back(self):
        for mobile in [levelled(each) for each in small_mobiles()] + sixty_four()[2::3] + shared_mobiles()[3:4]:
            if isinstance(mobile, Rod):
                for place in weight_places(mobile)[::7]:
                    tipping = done(mobile, ("put", place, (LARGE, 7)))
                    self.assertEqual(fitting(tipping, place), mobile.at(place).amount)

    def test_of_all(self):
        found = []
        for mobile in all_mobiles() + disturbed():
            tipping = tipping_of(picture(mobile))
            for place in weight_places(mobile)[::3]:
                amounts = {amount for above, amount in wants(mobile, place)}
                amount = fitting(mobile, place)
                if place == "":
                    self.assertEqual(amount, mobile.amount)
                elif len(amounts) == 1 and set(tipping) <= set(way_to(place)):
                    self.assertEqual(amount, amounts.pop())
                    self.assertTrue(is_fraction(amount))
                    self.assertTrue(hangs_level(done(mobile, ("put", place, amount))))
                else:
                    self.assertIsNone(amount)
                found.append(amount is None)
        self.assertEqual(set(found), {True, False})

    def test_none_where_even_the_lowest_want_does_not_fit(self):
        for mobile in small_mobiles() + disturbed()[:40]:
            for place in weight_places(mobile):
                if fitting(mobile, place) is None:
                    lowest = wants(mobile, place)[-1][1]
                    self.assertFalse(hangs_level(done(mobile, ("put", place, lowest))))


class ShiftFor(unittest.TestCase):
    def test_written_out(self):
        self.assertEqual(shift_for(pair(1, 3), ""), (1, 2))
        self.assertEqual(shift_for(pair(3, 1), ""), (-1, 2))
        self.assertEqual(shift_for(pair(3, 3), ""), (0, 1))
        mobile = Rod((2, 1), Weight((3, 1)), (3, 2), Rod((1, 1), Weight((1, 1)), (1, 2), Weight((4, 1))))
        self.assertEqual(shift_for(mobile, ""), (3, 16))
        self.assertEqual(shift_for(mobile, "r"), (1, 5))

    def test_of_all(self):
        signs = set()
        for mobile in all_mobiles():
            for place in rod_places(mobile)[::4]:
                far = shift_for(mobile, place)
                self.assertTrue(is_fraction(far))
                tips = place in tipping_of(picture(mobile))
                self.assertEqual(far != (0, 1), tips)
                self.assertNotIn(place, tipping_of(picture(done(mobile, ("shift", place, far)))))
                signs.add((far[0] > 0) - (far[0] < 0))
        self.assertEqual(signs, {-1, 0, 1})

    def test_to_the_heavier_side(self):
        for mobile in all_mobiles():
            for place, left, right in pulls(mobile)[::4]:
                far = shift_for(mobile, place)
                self.assertEqual(far[0] > 0, Fraction(*left) < Fraction(*right))


class Refused(unittest.TestCase):
    def test_no_places(self):
        for mobile in all_mobiles():
            for place in not_places(mobile):
                for ask in (wants, fitting, shift_for):
                    with self.assertRaises(NoPlace):
                        ask(mobile, place)

    def test_rods_for_wants_and_fitting(self):
        for mobile in all_mobiles():
            for place in rod_places(mobile)[::4]:
                for ask in (wants, fitting):
                    with self.assertRaises(NoPlace):
                        ask(mobile, place)

    def test_weights_for_shift_for(self):
        for mobile in all_mobiles():
            for place in weight_places(mobile)[::4]:
                with self.assertRaises(NoPlace):
                    shift_for(mobile, place)


class Mends(unittest.TestCase):
    def test_none_for_a_level_mobile(self):
        self.assertEqual(mends(Weight((3, 1))), [])
        self.assertEqual(mends(pair(2, 2)), [])
        for mobile in [levelled(each) for each in all_mobiles()]:
            self.assertEqual(mends(mobile), [])
            self.assertEqual(picture(mended(mobile)), picture(mobile))

    def test_one_put_at_the_first_place_where_several_fit(self):
        for left, right in [(2, 3), (3, 2), (1, 64)]:
            mobile = pair(left, right)
            self.assertEqual(fitting(mobile, "l"), (right, 1))
            self.assertEqual(fitting(mobile, "r"), (left, 1))
            self.assertEqual(mends(mobile), [("put", "l", (right, 1))])

    def test_one_put_where_one_fits(self):
        mobile = Rod(ONE, pair(2, 2), ONE, pair(2, 3))
        self.assertEqual(mends(mobile), [("put", "rr", (2, 1))])
        self.assertEqual(mends(Rod(ONE, pair(2, 2), ONE, Weight((5, 1)))), [("put", "r", (4, 1))])

    def test_one_put_where_two_rods_tip(self):
        lowest = Rod(ONE, Weight((1, 1)), (3, 1), Weight((1, 1)))
        mobile = Rod(ONE, lowest, ONE, Weight((4, 1)))
        self.assertEqual(fitting(mobile, "ll"), (3, 1))
        self.assertIsNone(fitting(mobile, "lr"))
        self.assertEqual(mends(mobile), [("put", "ll", (3, 1))])

    def test_shifts_of_just_the_rods_that_tip(self):
        mobile = Rod((2, 1), pair(2, 3), (1, 2), Weight((5, 1)))
        self.assertEqual(mends(mobile), [("shift", "", (-3, 4)), ("shift", "l", (1, 5))])
        mobile = Rod(ONE, pair(1, 3), ONE, Rod(ONE, pair(1, 1), (1, 2), pair(1, 3)))
        wanted = [("shift", "", (1, 5)), ("shift", "l", (1, 2)), ("shift", "rr", (1, 2))]
        self.assertEqual(mends(mobile), wanted)
        self.assertEqual(first_tipping(mended(mobile)), None)

    def test_shifts_of_a_level_top_stay_out(self):
        mobile = Rod(ONE, pair(1, 3), ONE, pair(3, 1))
        self.assertEqual(mends(mobile), [("shift", "l", (1, 2)), ("shift", "r", (-1, 2))])

    def test_of_all_by_the_words_of_the_document(self):
        kinds = set()
        for mobile in all_mobiles() + disturbed():
            found = mends(mobile)
            self.assertIs(type(found), list)
            self.assertEqual(found, self.mends_by_words(mobile))
            kinds.update([deed[0] for deed in found])
        self.assertEqual(kinds, {"put", "shift"})

    def mends_by_words(self, mobile):
        tipping = tipping_of(picture(mobile))
        if not tipping:
            return []
        for place in weight_places(mobile):
            # All rods that tip must be on the way, so none beside it is asked for its wants.
            if set(tipping) <= set(way_to(place)):
                amount = fitting(mobile, place)
                if amount is not None:
                    return [("put", place, amount)]
        return [("shift", place, shift_for(mobile, place)) for place in tipping]

    def test_the_mended_mobile_hangs_level_and_has_no_mend(self):
        for mobile in all_mobiles() + disturbed():
            before = picture(mobile)
            new = mended(mobile)
            self.assertTrue(hangs_level(new))
            self.assertEqual(mends(new), [])
            self.assertEqual(picture(mobile), before)

    def test_but_for_what_was_told_it_is_as_before(self):
        for mobile in all_mobiles() + disturbed():
            wanted = picture(mobile)
            for deed in mends(mobile):
                part = picture_at(wanted, deed[1])
                if deed[0] == "put":
                    part = ("weight", deed[2])
                else:
                    far = Fraction(*deed[2])
                    left_arm, right_arm = told(Fraction(*part[1]) + far), told(Fraction(*part[3]) - far)
                    part = ("rod", left_arm, part[2], right_arm, part[4])
                wanted = picture_with(wanted, deed[1], part)
            self.assertEqual(picture(mended(mobile)), wanted)

    def test_somewhat_beyond_sixty_four(self):
        for shape in (even, row_to_left, row_to_right):
            self.assertTrue(hangs_level(mended(shape(weights(100)))))


if __name__ == "__main__":
    unittest.main()
