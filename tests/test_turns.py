"""The turns of a cell, and one turn behind another."""

import itertools
import unittest

from rolldie.errors import NoCell, NoFloor, NoLie
from rolldie.lies import rolled
from rolldie.turns import behind, turns
from rolldie.ways import ends
from tests.helper import EVEN, FIRST, FLOORS, OPEN, RIGHT, STEPS, WRONG_LIES, Case, cells_of, moved_die, searched

ROWS = ["".join(row) for length in range(4) for row in itertools.product("nesw", repeat=length)]


def row_of_each_turn():
    rows = {}
    for length in range(5):
        for row in itertools.product("nesw", repeat=length):
            rows.setdefault(moved_die(FIRST, row), "".join(row))
    return rows


def some_cells(floor):
    cells = cells_of(floor)
    return sorted({cells[0], cells[len(cells) // 3], cells[len(cells) // 2], cells[-1]})


def each_cell():
    for floor in FLOORS.values():
        for place in some_cells(floor):
            yield floor, place


class TurnsTest(Case):
    def test_one_turn(self):
        for name in ("one cell", "one row", "one column", "a corner", "a ring of eight", "two parts", "a snake"):
            for place in cells_of(FLOORS[name]):
                with self.subTest(name, place=place):
                    self.assertEqual(turns(FLOORS[name], place), [FIRST])

    def test_two_turns(self):
        self.assertEqual(turns(FLOORS["a ring of ten"], (0, 0)), [FIRST, (6, 2, 4)])
        self.assertEqual(turns(FLOORS["a ring of ten"], (1, 0)), [FIRST, (1, 5, 4)])
        self.assertEqual(turns(FLOORS["a ring of ten upright"], (0, 0)), [FIRST, (6, 5, 3)])

    def test_three_turns(self):
        self.assertEqual(turns(["..", ".."], (0, 0)), [FIRST, (2, 4, 6), (4, 1, 5)])
        self.assertEqual(turns(FLOORS["a ring of twelve"], (0, 0)), [FIRST, (3, 6, 5), (5, 4, 1)])

    def test_four_turns(self):
        self.assertEqual(turns(FLOORS["two rings"], (0, 0)), [FIRST, (1, 5, 4), (6, 2, 4), (6, 5, 3)])

    def test_twelve_turns(self):
        for place in cells_of(["...", "..."]):
            self.assertEqual(turns(["...", "..."], place), EVEN)
        for place in [(0, 0), (0, 1), (4, 3), (7, 7)]:
            self.assertEqual(turns(OPEN, place), EVEN)

    def test_the_ways_of_a_cell_in_another_part_count_for_nothing(self):
        floor = ["..#.", "..#."]
        self.assertEqual(len(turns(floor, (0, 0))), 3)
        self.assertEqual(turns(floor, (0, 3)), [FIRST])

    def test_against_a_search(self):
        for floor, place in each_cell():
            found = sorted(lie for there, lie in searched(floor, (place, FIRST)) if there == place)
            told = turns(floor, place)
            self.assertEqual(told, found, (floor, place))
            self.assertIs(type(told), list)
            self.assertEqual([type(turn) for turn in told], [tuple] * len(told))

    def test_the_turns_of_all_short_rows_that_lead_back(self):
        # On an open floor away from its edges every row can be done.
        found = set()
        for row in itertools.product("nesw", repeat=6):
            if sum(STEPS[roll][0] for roll in row) == 0 and sum(STEPS[roll][1] for roll in row) == 0:
                found.add(rolled(FIRST, "".join(row)))
        self.assertLessEqual(found, set(turns(OPEN, (4, 4))))
        self.assertGreater(len(found), 1)

    def test_with_any_two_the_one_behind_the_other_is_told(self):
        for floor, place in each_cell():
            told = turns(floor, place)
            for one, other in itertools.product(told, repeat=2):
                self.assertIn(behind(one, other), told, (floor, place))

    def test_their_number_goes_into_twelve(self):
        for floor, place in each_cell():
            self.assertEqual(12 % len(turns(floor, place)), 0, (floor, place))

    def test_they_do_not_hang_on_how_the_die_lies(self):
        for floor, place in [(["..", ".."], (1, 0)), (FLOORS["a ring of ten"], (0, 1)), (FLOORS["two rings"], (2, 2))]:
            told = turns(floor, place)
            for lie in RIGHT:
                self.assertEqual(ends(floor, (place, lie), place), sorted(behind(lie, turn) for turn in told))

    def test_cells_of_one_part_have_as_many(self):
        for name, floor in FLOORS.items():
            numbers = {place: len(turns(floor, place)) for place in some_cells(floor)}
            for one, other in itertools.combinations(numbers, 2):
                if other in {place for place, lie in searched(floor, (one, FIRST))}:
                    self.assertEqual(numbers[one], numbers[other], name)

    def test_no_floor_and_no_cell(self):
        for floor in ([], [""], ["..", "."], ["x"], ["."] * 9, ["." * 9]):
            self.assert_refused(NoFloor, turns, floor, (0, 0))
            self.assert_refused(NoFloor, turns, floor, (-1, 5))
        for place in [(-1, 0), (0, -1), (2, 0), (0, 3), (0, 1), (-2, -3)]:
            self.assert_refused(NoCell, turns, [".#.", "..."], place)


class BehindTest(Case):
    def test_against_rolling_both_one_behind_the_other(self):
        for one, other in itertools.product(ROWS, repeat=2):
            told = behind(moved_die(FIRST, one), moved_die(FIRST, other))
            self.assertEqual(told, moved_die(FIRST, one + other), (one, other))

    def test_any_two_turns(self):
        rows = row_of_each_turn()
        self.assertEqual(sorted(rows), RIGHT)
        for one, other in itertools.product(RIGHT, repeat=2):
            told = behind(one, other)
            self.assertEqual(told, moved_die(one, rows[other]), (one, other))
            self.assertIs(type(told), tuple)

    def test_the_order_of_the_two(self):
        north, east = (5, 1, 3), (4, 2, 1)
        self.assertEqual(behind(north, east), (4, 1, 5))
        self.assertEqual(behind(east, north), (5, 4, 1))

    def test_behind_the_row_of_none_and_ahead_of_it(self):
        for turn in RIGHT:
            self.assertEqual(behind(FIRST, turn), turn)
            self.assertEqual(behind(turn, FIRST), turn)

    def test_wrong_lies(self):
        for wrong in WRONG_LIES:
            for right in (FIRST, (4, 6, 2)):
                with self.subTest(wrong=wrong, right=right):
                    self.assert_refused(NoLie, behind, wrong, right)
                    self.assert_refused(NoLie, behind, right, wrong)
            self.assert_refused(NoLie, behind, wrong, wrong)
            self.assert_refused(NoLie, behind, wrong, (1, 3, 2))


if __name__ == "__main__":
    unittest.main()
