"""The lies, the rolls, the times and the hands, each against a die of six sides that is moved as a whole."""

import itertools
import unittest

from rolldie.errors import NoLie, NoRoll
from rolldie.lies import hand, is_lie, lies, rolled, times
from tests.helper import BACK, EVEN, FIRST, MOVES, OTHER_LETTERS, RIGHT, WRONG, Case, moved_die

ROWS = ["".join(row) for length in range(5) for row in itertools.product("nesw", repeat=length)]


def moved_from(start):
    seen = {start}
    waiting = [start]
    while waiting:
        lie = waiting.pop()
        for roll in MOVES:
            after = rolled(lie, roll)
            if after not in seen:
                seen.add(after)
                waiting.append(after)
    return seen


class RightLiesTest(Case):
    def test_right_lies(self):
        for lie in RIGHT:
            with self.subTest(lie=lie):
                self.assertIs(is_lie(lie), True)

    def test_wrong_lies(self):
        for why, wrong in WRONG.items():
            for lie in wrong:
                with self.subTest(why=why, lie=lie):
                    self.assertIs(is_lie(lie), False)

    def test_every_tuple_near_the_sides(self):
        numbers = [-1000, *range(-7, 15), 1000]
        right = [lie for lie in itertools.product(numbers, repeat=3) if is_lie(lie)]
        self.assertEqual(right, RIGHT)

    def test_lies_are_twenty_four_each_once_in_order(self):
        told = lies()
        self.assertIs(type(told), list)
        self.assertEqual(len(told), 24)
        self.assertEqual(len(set(told)), 24)
        self.assertEqual(told, sorted(told))
        self.assertEqual(told, RIGHT)
        self.assertEqual({type(lie) for lie in told}, {tuple})

    def test_rolls_lead_from_the_first_lie_to_just_these(self):
        self.assertEqual(sorted(moved_from(FIRST)), RIGHT)
        self.assertEqual(sorted(moved_from(FIRST)), lies())


class RollsTest(Case):
    def test_each_roll_from_the_first_lie(self):
        self.assertEqual(rolled(FIRST, "n"), (5, 1, 3))
        self.assertEqual(rolled(FIRST, "e"), (4, 2, 1))
        self.assertEqual(rolled(FIRST, "s"), (2, 6, 3))
        self.assertEqual(rolled(FIRST, "w"), (3, 2, 6))

    def test_each_roll_from_another_lie(self):
        self.assertEqual(rolled((4, 6, 2), "n"), (1, 4, 2))
        self.assertEqual(rolled((4, 6, 2), "e"), (5, 6, 4))
        self.assertEqual(rolled((4, 6, 2), "s"), (6, 3, 2))
        self.assertEqual(rolled((4, 6, 2), "w"), (2, 6, 3))

    def test_the_four_rolls_lead_apart(self):
        for lie in RIGHT:
            with self.subTest(lie=lie):
                self.assertEqual(len({rolled(lie, roll) for roll in "nesw"}), 4)

    def test_a_row_of_none(self):
        for lie in RIGHT:
            self.assertEqual(rolled(lie, ""), lie)

    def test_a_row_of_several(self):
        self.assertEqual(rolled(FIRST, "ne"), (4, 1, 5))
        self.assertEqual(rolled(FIRST, "en"), (5, 4, 1))
        self.assertEqual(rolled(FIRST, "nesw"), (5, 3, 6))

    def test_every_short_row_from_every_lie(self):
        for lie in RIGHT:
            for rolls in ROWS:
                self.assertEqual(rolled(lie, rolls), moved_die(lie, rolls), (lie, rolls))

    def test_a_row_of_sixty(self):
        rolls = "nnesw" * 12
        for lie in RIGHT:
            self.assertEqual(rolled(lie, rolls), moved_die(lie, rolls))

    def test_a_row_is_done_one_behind_the_other(self):
        for lie in RIGHT:
            self.assertEqual(rolled(lie, "nees"), rolled(rolled(lie, "ne"), "es"))

    def test_there_and_back(self):
        for lie in RIGHT:
            for roll, back in BACK.items():
                self.assertNotEqual(rolled(lie, roll), lie)
                self.assertEqual(rolled(lie, roll + back), lie)

    def test_a_lie_that_is_told_is_a_tuple(self):
        for rolls in ("", "n", "nesw"):
            self.assertIs(type(rolled(FIRST, rolls)), tuple)

    def test_another_letter_at_any_place(self):
        for letter in OTHER_LETTERS:
            for rolls in (letter, letter + "ne", "n" + letter + "e", "ne" + letter, letter * 60):
                with self.subTest(rolls=rolls):
                    self.assert_refused(NoRoll, rolled, FIRST, rolls)

    def test_capital_letters_and_blanks(self):
        for rolls in ("N", "E", "S", "W", "nE", "NESW", " ", " n", "n e", "s "):
            with self.subTest(rolls=rolls):
                self.assert_refused(NoRoll, rolled, FIRST, rolls)

    def test_another_letter_behind_fifty_nine_rolls(self):
        self.assert_refused(NoRoll, rolled, FIRST, "n" * 59 + "x")

    def test_a_wrong_lie(self):
        for wrong in WRONG.values():
            for lie in wrong:
                for rolls in ("", "n", "nesw"):
                    with self.subTest(lie=lie, rolls=rolls):
                        self.assert_refused(NoLie, rolled, lie, rolls)

    def test_a_wrong_lie_ahead_of_another_letter(self):
        for wrong in WRONG.values():
            for lie in wrong:
                for rolls in ("x", "nX", " "):
                    with self.subTest(lie=lie, rolls=rolls):
                        self.assert_refused(NoLie, rolled, lie, rolls)


class TimesTest(Case):
    def test_a_row_of_none(self):
        self.assertEqual(times(""), 1)

    def test_single_rolls(self):
        for roll in "nesw":
            self.assertEqual(times(roll), 4)

    def test_there_and_back(self):
        for roll, back in BACK.items():
            self.assertEqual(times(roll + back), 1)

    def test_rows_with_times_of_their_own(self):
        for rolls, number in (("nn", 2), ("nnnn", 1), ("ne", 3), ("sw", 3), ("nesw", 3), ("nee", 2), ("nes", 4)):
            with self.subTest(rolls=rolls):
                self.assertEqual(times(rolls), number)

    def test_so_many_times_lead_each_lie_back_and_no_lesser_number_does(self):
        for rolls in ROWS + ["nnesw" * 12, "n" * 59 + "e"]:
            number = times(rolls)
            self.assertGreaterEqual(number, 1, rolls)
            for lie in RIGHT:
                self.assertEqual(moved_die(lie, rolls * number), lie, rolls)
            for lesser in range(1, number):
                stay = [lie for lie in RIGHT if moved_die(lie, rolls * lesser) == lie]
                self.assertNotEqual(stay, RIGHT, rolls)

    def test_rows_turn_a_die_alike_just_where_their_turns_are_one(self):
        ends_by_turn = {}
        for rolls in ROWS:
            ends = tuple([rolled(lie, rolls) for lie in RIGHT])
            self.assertEqual(ends_by_turn.setdefault(rolled(FIRST, rolls), ends), ends, rolls)
        self.assertEqual(sorted(ends_by_turn), RIGHT)
        self.assertEqual(len(set(ends_by_turn.values())), 24)

    def test_another_letter_at_any_place(self):
        for letter in OTHER_LETTERS:
            for rolls in (letter, letter + "ns", "n" + letter + "s", "ns" + letter):
                with self.subTest(rolls=rolls):
                    self.assert_refused(NoRoll, times, rolls)


class HandTest(Case):
    def test_the_first_lie_is_even(self):
        self.assertEqual(hand(FIRST), 0)

    def test_the_hand_of_each_lie(self):
        for lie in RIGHT:
            with self.subTest(lie=lie):
                self.assertEqual(hand(lie), 0 if lie in EVEN else 1)
                self.assertIs(type(hand(lie)), int)

    def test_each_roll_turns_the_hand_to_the_other_one(self):
        for lie in RIGHT:
            for roll in "nesw":
                with self.subTest(lie=lie, roll=roll):
                    self.assertEqual(hand(moved_die(lie, roll)), 1 - hand(lie))

    def test_a_wrong_lie(self):
        for wrong in WRONG.values():
            for lie in wrong:
                with self.subTest(lie=lie):
                    self.assert_refused(NoLie, hand, lie)


class OwnTest(Case):
    def test_a_list_that_was_told_is_the_askers_own(self):
        told = lies()
        other = lies()
        self.assertIsNot(told, other)
        told[0] = (6, 6, 6)
        told.clear()
        self.assertEqual(other, RIGHT)
        self.assertEqual(lies(), RIGHT)
        self.assertIs(is_lie(FIRST), True)

    def test_nothing_is_kept_of_what_was_asked_or_refused(self):
        asks = [(FIRST, "ne"), ((4, 6, 2), ""), ((6, 2, 4), "sww")]
        before = [rolled(*ask) for ask in asks]
        self.assert_refused(NoRoll, rolled, FIRST, "nnx")
        self.assert_refused(NoLie, rolled, (1, 3, 2), "n")
        self.assertEqual([rolled(*ask) for ask in reversed(asks)], before[::-1])


if __name__ == "__main__":
    unittest.main()
