"""What points 1 to 3 promise over the whole program."""

import ast
import pathlib
import unittest
from fractions import Fraction

import hangmobile
from hangmobile.deeds import done
from hangmobile.errors import NoText
from hangmobile.level import drawn, first_tipping, hangs_level, pulls
from hangmobile.mending import fitting, mended, mends, shift_for, wants
from hangmobile.texts import read, shown
from hangmobile.things import Rod
from mobiles import (LARGE, all_mobiles, hung_as, picture, picture_with, rod_places, row_to_right, tipping_of,
                     weight_places, weights)


def lists_told(mobile):
    """How each list that the program tells of a mobile is asked for."""
    place = weight_places(mobile)[-1]
    return [
        mobile.places,
        lambda: pulls(mobile),
        lambda: drawn(mobile),
        lambda: wants(mobile, place),
        lambda: mends(mobile),
    ]


class OwnLists(unittest.TestCase):
    def test_the_asker_may_change_each_list(self):
        for mobile in all_mobiles():
            for ask in lists_told(mobile):
                first = ask()
                self.assertIs(type(first), list)
                wanted = list(first)
                first.reverse()
                first.append("mine")
                self.assertEqual(ask(), wanted)
                first.clear()
                self.assertEqual(ask(), wanted)

    def test_a_changed_list_changes_nothing_else(self):
        for mobile in all_mobiles()[::3]:
            tipping = first_tipping(mobile)
            text = shown(mended(mobile))
            for ask in lists_told(mobile):
                ask().clear()
            self.assertEqual(first_tipping(mobile), tipping)
            self.assertEqual(shown(mended(mobile)), text)

    def test_empty_lists_too(self):
        mobile = read("5")
        for ask in [lambda: pulls(mobile), lambda: wants(mobile, ""), lambda: mends(mobile)]:
            self.assertEqual(ask(), [])
            ask().append("mine")
            self.assertEqual(ask(), [])


class NothingChanged(unittest.TestCase):
    def test_a_mobile_stays_as_it_was(self):
        for mobile in all_mobiles():
            before = picture(mobile)
            parts = [mobile.at(place) for place in mobile.places()]
            for ask in [pulls, drawn, first_tipping, hangs_level, mends, mended, shown]:
                ask(mobile)
            weight = weight_places(mobile)[0]
            wants(mobile, weight)
            fitting(mobile, weight)
            for place in rod_places(mobile)[-1:]:
                shift_for(mobile, place)
                done(mobile, ("cut", place + "l"))
            done(mobile, ("put", weight, (LARGE, 1)))
            self.assertEqual(picture(mobile), before)
            for place, part in zip(mobile.places(), parts, strict=True):
                self.assertIs(mobile.at(place), part)

    def test_what_comes_of_a_deed_can_be_changed_on(self):
        mobile = row_to_right(weights(64))
        texts = [shown(mobile)]
        line = [mobile]
        for deed in mends(mobile):
            line.append(done(line[-1], deed))
            texts.append(shown(line[-1]))
        self.assertEqual([shown(each) for each in line], texts)
        self.assertEqual(shown(mended(mobile)), texts[-1])

    def test_the_same_is_told_each_time(self):
        for mobile in all_mobiles():
            for ask in [pulls, drawn, first_tipping, hangs_level, mends, shown]:
                self.assertEqual(ask(mobile), ask(mobile))


class Promise(unittest.TestCase):
    def test_level_just_where_all_pulls_are_equal(self):
        for mobile in all_mobiles():
            equal = all(left == right for place, left, right in pulls(mobile))
            self.assertIs(hangs_level(mobile), equal)
            self.assertIs(first_tipping(mobile) is None, equal)

    def test_level_just_where_each_middle_is_below_the_string(self):
        for mobile in all_mobiles():
            far_at = {place: Fraction(*far) for place, far in drawn(mobile)}
            tips = []
            for rod in rod_places(mobile):
                below = [place for place in weight_places(mobile) if place.startswith(rod)]
                amounts = [Fraction(*mobile.at(place).amount) for place in below]
                middle = sum(far_at[place] * amount for place, amount in zip(below, amounts)) / sum(amounts)
                tips.append(middle != far_at[rod])
            self.assertIs(hangs_level(mobile), not any(tips))

    def test_a_text_is_read_to_the_same_mobile_or_refused(self):
        for mobile in all_mobiles():
            text = shown(mobile)
            self.assertEqual(picture(read(text)), picture(mobile))
            for wrong in [text + " ", " " + text, text + "]", "[" + text, text + "/1", "0" + text, "-" + text]:
                with self.assertRaises(NoText):
                    read(wrong)

    def test_the_mend(self):
        for mobile in all_mobiles():
            deeds = mends(mobile)
            kinds = [deed[0] for deed in deeds]
            one_can = [place for place in weight_places(mobile) if fitting(mobile, place) is not None]
            if hangs_level(mobile):
                self.assertEqual(deeds, [])
            elif one_can:
                self.assertEqual([deed[:2] for deed in deeds], [("put", one_can[0])])
            else:
                self.assertEqual(kinds, ["shift"] * len(kinds))
                self.assertEqual([deed[1] for deed in deeds], tipping_of(picture(mobile)))
            self.assertTrue(hangs_level(mended(mobile)))

    def test_but_for_the_mend_all_is_as_before(self):
        for mobile in all_mobiles():
            new = picture(mended(mobile))
            for deed in reversed(mends(mobile)):
                # Each thing that was told, hung back as it was, leads to the mobile handed in.
                old = mobile.at(deed[1])
                if isinstance(old, Rod):
                    here = hung_as(new).at(deed[1])
                    part = ("rod", old.left_arm, picture(here.left), old.right_arm, picture(here.right))
                else:
                    part = ("weight", old.amount)
                new = picture_with(new, deed[1], part)
            self.assertEqual(new, picture(mobile))


class NoOutsideHelp(unittest.TestCase):
    def test_only_the_packages_own_files_are_drawn_from(self):
        """So neither a clock nor chance nor files can come in."""
        folder = pathlib.Path(hangmobile.__file__).parent
        for file in folder.glob("*.py"):
            for node in ast.walk(ast.parse(file.read_text())):
                self.assertNotIsInstance(node, ast.Import, file.name)
                if isinstance(node, ast.ImportFrom):
                    self.assertTrue(node.module.startswith("hangmobile."), file.name)
                if isinstance(node, ast.Name):
                    self.assertNotIn(node.id, ("open", "input", "print", "__import__", "float", "hash", "id"))


if __name__ == "__main__":
    unittest.main()
