"""Floors, places, stands, and the rolls that can be done from a stand."""

import itertools
import unittest

from rolldie.errors import NoCell, NoFloor, NoLie, NoRoll
from rolldie.floors import looked, walked
from rolldie.ways import come_to, ends, firm, way
from rolldie.turns import turns
from tests.helper import (
    BACK, FIRST, FLOORS, NO_FLOORS, OPEN, OTHER_LETTERS, RIGHT, SIGNS, STEPS, WRONG_LIES, Case, cells_of, moved_die,
)

START = ((0, 0), FIRST)

# Two rows and four columns, so that rows and columns can't be mistaken for one another.
WIDE = [".#..", "...#"]

# Beside the floor on each side, and the places that are gaps in it.
NO_CELLS = {
    "to the north": [(-1, 0), (-1, 3), (-2, 1), (-1000, 0)],
    "to the south": [(2, 0), (2, 3), (3, 1), (1000, 0)],
    "to the west": [(0, -1), (1, -1), (1, -2), (0, -4), (1, -1000)],
    "to the east": [(0, 4), (1, 4), (1, 5), (0, 1000)],
    "across a corner": [(-1, -1), (-1, 4), (2, -1), (2, 4), (-2, -4), (-1000, -1000), (1000, 1000)],
    "a gap": [(0, 1), (1, 3)],
    "row and column changed": [(2, 1), (2, 0), (3, 0)],
}

ASKS_OF_A_FLOOR = {
    "looked": looked,
    "walked": lambda floor: walked(floor, START, ""),
    "come_to": lambda floor: come_to(floor, START),
    "way": lambda floor: way(floor, START, START),
    "ends": lambda floor: ends(floor, START, (0, 0)),
    "firm": lambda floor: firm(floor, START),
    "turns": lambda floor: turns(floor, (0, 0)),
}

ASKS_OF_A_PLACE = {
    "walked": lambda floor, place: walked(floor, (place, FIRST), ""),
    "come_to": lambda floor, place: come_to(floor, (place, FIRST)),
    "way from": lambda floor, place: way(floor, (place, FIRST), START),
    "way to": lambda floor, place: way(floor, START, (place, FIRST)),
    "ends from": lambda floor, place: ends(floor, (place, FIRST), (0, 0)),
    "ends at": lambda floor, place: ends(floor, START, place),
    "firm": lambda floor, place: firm(floor, (place, FIRST)),
    "turns": turns,
}

ASKS_OF_A_LIE = {
    "walked": lambda floor, lie: walked(floor, ((0, 0), lie), ""),
    "come_to": lambda floor, lie: come_to(floor, ((0, 0), lie)),
    "way from": lambda floor, lie: way(floor, ((0, 0), lie), START),
    "way to": lambda floor, lie: way(floor, START, ((0, 0), lie)),
    "ends": lambda floor, lie: ends(floor, ((0, 0), lie), (0, 0)),
    "firm": lambda floor, lie: firm(floor, ((0, 0), lie)),
}


class LookedTest(Case):
    def assert_cells(self, floor, number):
        self.assertEqual(looked(floor), number, floor)
        self.assertIs(type(looked(floor)), int)

    def test_one_place(self):
        self.assert_cells(["."], 1)
        self.assert_cells(["#"], 0)

    def test_one_row(self):
        self.assert_cells([".."], 2)
        self.assert_cells(["..#."], 3)
        self.assert_cells(["........"], 8)
        self.assert_cells(["#.####.#"], 2)

    def test_one_column(self):
        self.assert_cells([".", "."], 2)
        self.assert_cells([".", "#", "."], 2)
        self.assert_cells(["."] * 8, 8)
        self.assert_cells(["#"] * 7 + ["."], 1)

    def test_eight_rows_and_columns(self):
        self.assert_cells(OPEN, 64)
        self.assert_cells(["########"] * 8, 0)
        self.assert_cells(["........"] * 7 + [".......#"], 63)
        self.assert_cells(["#......."] + ["........"] * 7, 63)

    def test_every_length_and_width(self):
        for length, width in itertools.product(range(1, 9), repeat=2):
            self.assert_cells(["." * width] * length, length * width)
            self.assert_cells(["#" * width] * length, 0)

    def test_floors_with_and_without_gaps(self):
        for name, floor in FLOORS.items():
            with self.subTest(name):
                self.assert_cells(floor, len(cells_of(floor)))


class NoFloorTest(Case):
    def test_lists_that_are_no_floor(self):
        for why, floor in NO_FLOORS.items():
            for name, ask in ASKS_OF_A_FLOOR.items():
                with self.subTest(why, ask=name):
                    self.assert_refused(NoFloor, ask, list(floor))

    def test_too_many_rows_or_signs(self):
        for number in range(9, 13):
            self.assert_refused(NoFloor, looked, ["."] * number)
            self.assert_refused(NoFloor, looked, ["#" * 8] * number)
        for number in range(9, 61):
            self.assert_refused(NoFloor, looked, ["." * number])
            self.assert_refused(NoFloor, looked, ["." * number] * 8)

    def test_a_row_of_another_length_at_any_place(self):
        for length, other in itertools.product(range(2, 9), (0, 1, 2, 4, 5, 8, 9)):
            for place in range(length):
                floor = ["..."] * length
                floor[place] = "." * other
                self.assert_refused(NoFloor, looked, floor)

    def test_every_other_sign(self):
        for sign in SIGNS:
            if sign not in ".#":
                self.assert_refused(NoFloor, looked, [sign])
                self.assert_refused(NoFloor, looked, ["..", "." + sign])

    def test_another_sign_at_any_place(self):
        for sign, row, column in itertools.product("x ,", range(4), range(5)):
            floor = ["..#.."] * 4
            floor[row] = floor[row][:column] + sign + floor[row][column + 1:]
            self.assert_refused(NoFloor, looked, floor)


class StandTest(Case):
    def test_each_cell_is_a_place(self):
        for name, floor in FLOORS.items():
            for place in cells_of(floor):
                with self.subTest(name, place=place):
                    self.assertEqual(walked(floor, (place, FIRST), ""), (place, FIRST))

    def test_each_right_lie_on_a_cell_is_a_stand(self):
        for lie in RIGHT:
            self.assertEqual(walked(WIDE, ((1, 2), lie), ""), ((1, 2), lie))

    def test_the_first_row_is_the_northernmost_and_the_first_column_the_westernmost(self):
        self.assertEqual(walked([".##", "..."], START, "see"), ((1, 2), moved_die(FIRST, "see")))
        self.assert_refused(NoCell, walked, ["##.", "..."], START, "")

    def test_places_that_are_no_cell(self):
        for why, places in NO_CELLS.items():
            for place, (name, ask) in itertools.product(places, ASKS_OF_A_PLACE.items()):
                with self.subTest(why, place=place, ask=name):
                    self.assert_refused(NoCell, ask, WIDE, place)

    def test_every_place_around_a_full_floor(self):
        for row, column in itertools.product(range(-9, 17), repeat=2):
            if not (0 <= row < 8 and 0 <= column < 8):
                self.assert_refused(NoCell, walked, OPEN, ((row, column), FIRST), "")

    def test_no_place_of_a_floor_without_a_cell_is_one(self):
        for place in [(0, 0), (1, 1), (-1, 0), (5, 5)]:
            self.assert_refused(NoCell, walked, ["##", "##"], (place, FIRST), "")
            self.assert_refused(NoCell, turns, ["##", "##"], place)

    def test_wrong_lies(self):
        for lie, (name, ask) in itertools.product(WRONG_LIES, ASKS_OF_A_LIE.items()):
            with self.subTest(lie=lie, ask=name):
                self.assert_refused(NoLie, ask, WIDE, lie)


class WalkedTest(Case):
    def test_each_roll(self):
        floor = ["...."] * 3
        start = ((1, 1), FIRST)
        self.assertEqual(walked(floor, start, "n"), ((0, 1), (5, 1, 3)))
        self.assertEqual(walked(floor, start, "e"), ((1, 2), (4, 2, 1)))
        self.assertEqual(walked(floor, start, "s"), ((2, 1), (2, 6, 3)))
        self.assertEqual(walked(floor, start, "w"), ((1, 0), (3, 2, 6)))

    def test_each_roll_from_every_lie(self):
        for lie, (roll, step) in itertools.product(RIGHT, STEPS.items()):
            told = walked(OPEN, ((3, 5), lie), roll)
            self.assertEqual(told, ((3 + step[0], 5 + step[1]), moved_die(lie, roll)))

    def test_a_row_of_none(self):
        for stand in [START, ((1, 2), (4, 6, 2)), ((0, 3), (6, 5, 3))]:
            self.assertEqual(walked(WIDE, stand, ""), stand)

    def test_rows_of_several(self):
        self.assertEqual(walked(WIDE, START, "seene"), ((0, 3), moved_die(FIRST, "seene")))
        self.assertEqual(walked(["...", ".#.", "..."], START, "eessw"), ((2, 1), moved_die(FIRST, "eessw")))

    def test_to_every_edge_and_back(self):
        for roll, back in BACK.items():
            place = {"n": (7, 3), "e": (3, 0), "s": (0, 3), "w": (3, 7)}[roll]
            far = {"n": (0, 3), "e": (3, 7), "s": (7, 3), "w": (3, 0)}[roll]
            self.assertEqual(walked(OPEN, (place, FIRST), roll * 7), (far, moved_die(FIRST, roll * 7)))
            self.assertEqual(walked(OPEN, (place, FIRST), roll * 7 + back * 7), (place, FIRST))

    def test_a_row_of_sixty(self):
        rolls = "nesw" * 15
        self.assertEqual(walked(OPEN, ((4, 4), FIRST), rolls), ((4, 4), moved_die(FIRST, rolls)))

    def test_what_is_told_is_a_stand(self):
        for rolls in ("", "s", "se"):
            place, lie = walked(WIDE, START, rolls)
            self.assertIs(type(walked(WIDE, START, rolls)), tuple)
            self.assertIs(type(place), tuple)
            self.assertIs(type(lie), tuple)

    def test_a_roll_off_the_floor_at_any_place(self):
        # Onto the floor, rolls that lead off it on one side, and rolls that could be done ahead of them.
        for roll, place in {"n": (0, 1), "e": (1, 2), "s": (2, 1), "w": (1, 0)}.items():
            there_and_back = {"n": "sn", "e": "we", "s": "ns", "w": "ew"}[roll]
            for rolls in (roll, roll + BACK[roll], there_and_back + roll, there_and_back + roll + there_and_back):
                with self.subTest(rolls=rolls):
                    self.assert_refused(NoRoll, walked, ["..."] * 3, (place, FIRST), rolls)

    def test_off_a_floor_of_one_cell(self):
        for roll in "nesw":
            self.assert_refused(NoRoll, walked, ["."], START, roll)

    def test_off_the_floor_and_on_again_is_not_done(self):
        self.assert_refused(NoRoll, walked, OPEN, START, "ns")
        self.assert_refused(NoRoll, walked, OPEN, START, "we")
        self.assert_refused(NoRoll, walked, OPEN, ((7, 7), FIRST), "sn")
        self.assert_refused(NoRoll, walked, OPEN, ((7, 7), FIRST), "ew")

    def test_a_roll_onto_a_gap_at_any_place(self):
        floor = [".....", ".....", "..#..", ".....", "....."]
        for roll, place in {"n": (3, 2), "e": (2, 1), "s": (1, 2), "w": (2, 3)}.items():
            ahead = BACK[roll] + roll
            for rolls in (roll, roll + BACK[roll], roll + roll, ahead + roll, ahead + roll + roll, ahead + ahead + roll):
                with self.subTest(rolls=rolls):
                    self.assert_refused(NoRoll, walked, floor, (place, FIRST), rolls)

    def test_another_letter_at_any_place(self):
        for letter in OTHER_LETTERS:
            for rolls in (letter, letter + "se", "s" + letter + "e", "se" + letter, letter * 60):
                self.assert_refused(NoRoll, walked, OPEN, START, rolls)

    def test_another_letter_behind_fifty_nine_rolls(self):
        self.assert_refused(NoRoll, walked, OPEN, START, "s" + "ew" * 29 + "x")

    def test_every_short_row_is_done_or_refused(self):
        floor = ["..#", "...", "#.."]
        cells = cells_of(floor)
        for rolls in itertools.chain(*[itertools.product("nesw", repeat=length) for length in range(6)]):
            places = [(1, 1)]
            for roll in rolls:
                places.append((places[-1][0] + STEPS[roll][0], places[-1][1] + STEPS[roll][1]))
            handed = (floor, ((1, 1), (4, 6, 2)), "".join(rolls))
            if all(place in cells for place in places):
                self.assertEqual(walked(*handed), (places[-1], moved_die((4, 6, 2), rolls)))
            else:
                self.assert_refused(NoRoll, walked, *handed)


if __name__ == "__main__":
    unittest.main()
