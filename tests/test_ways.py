"""What can be come to, the shortest rows, the ends at a cell and the firm cells, against a search of the tests' own."""

import itertools
import unittest

from rolldie.errors import NoWay
from rolldie.floors import walked
from rolldie.lies import hand
from rolldie.ways import come_to, ends, firm, way
from tests.helper import (
    EVEN, FIRST, FLOORS, OPEN, PARTED, RIGHT, STEPS, Case, cells_of, moved_die, neighbours, searched, starts_of,
)

START = ((0, 0), FIRST)


def each_start():
    for name, floor in FLOORS.items():
        for start in starts_of(floor):
            yield name, floor, start


def least_row(floor, one, other):
    """Of the shortest rows the first: back from the end, each roll the first one that comes nearer to it."""
    cells = set(cells_of(floor))
    left = searched(floor, other)
    rolls = ""
    while one != other:
        nearer = [(roll, after) for roll, after in neighbours(cells, one) if left[after] == left[one] - 1]
        roll, one = min(nearer)
        rolls += roll
    return rolls


def rows_tried(floor, start, longest):
    """For each stand, all the shortest rows that lead there, from trying every row up to a length."""
    cells = set(cells_of(floor))
    rows = {}
    for length in range(longest + 1):
        for row in itertools.product("wsne", repeat=length):
            place, lie = start
            for roll in row:
                place = (place[0] + STEPS[roll][0], place[1] + STEPS[roll][1])
                if place not in cells:
                    break
            else:
                found = rows.setdefault((place, moved_die(lie, row)), [])
                if not found or len(found[0]) == length:
                    found.append("".join(row))
    return rows


def ends_searched(floor, start):
    lies_at = {}
    for place, lie in searched(floor, start):
        lies_at.setdefault(place, []).append(lie)
    return {place: sorted(found) for place, found in lies_at.items()}


def colour(place):
    return (place[0] + place[1]) % 2


def own_hand(lie):
    return 0 if lie in EVEN else 1


class ComeToTest(Case):
    def test_the_distances(self):
        for name, floor, start in each_start():
            with self.subTest(name, start=start):
                self.assertEqual(come_to(floor, start), searched(floor, start))

    def test_the_start_itself_is_told_with_0(self):
        for name, floor, start in each_start():
            with self.subTest(name, start=start):
                self.assertEqual(come_to(floor, start)[start], 0)
                self.assertEqual([found for found, number in come_to(floor, start).items() if number == 0], [start])

    def test_one_cell(self):
        for lie in RIGHT:
            self.assertEqual(come_to(["."], ((0, 0), lie)), {((0, 0), lie): 0})
            self.assertEqual(come_to(["##", "#."], ((1, 1), lie)), {((1, 1), lie): 0})

    def test_one_row(self):
        told = {((0, 0), FIRST): 1, ((0, 1), (4, 2, 1)): 0, ((0, 2), (6, 2, 4)): 1, ((0, 3), (3, 2, 6)): 2}
        self.assertEqual(come_to(["...."], ((0, 1), (4, 2, 1))), told)

    def test_one_column(self):
        told = {((0, 0), FIRST): 0, ((1, 0), (2, 6, 3)): 1, ((2, 0), (6, 5, 3)): 2}
        self.assertEqual(come_to([".", ".", ".", "#", "."], START), told)

    def test_a_floor_in_two_parts(self):
        for part in ([(0, 0), (0, 1), (1, 0)], [(0, 3), (1, 3)]):
            for place in part:
                found = come_to(PARTED, (place, FIRST))
                self.assertEqual(sorted({there for there, lie in found}), part)

    def test_cells_that_touch_at_a_corner_only_are_apart(self):
        self.assertEqual(come_to([".#", "#."], START), {START: 0})

    def test_an_open_floor_of_eight_rows_and_columns(self):
        self.assertEqual(len(come_to(OPEN, START)), 64 * 12)

    def test_it_can_be_come_to_and_fro_alike(self):
        floor = ["..#", "...", ".#."]
        for other, number in come_to(floor, START).items():
            self.assertEqual(come_to(floor, other)[START], number)

    def test_the_kinds(self):
        told = come_to(PARTED, START)
        self.assertIs(type(told), dict)
        for stand, number in told.items():
            self.assertEqual([type(stand), type(stand[0]), type(stand[1]), type(number)], [tuple, tuple, tuple, int])


class WayTest(Case):
    def assert_way(self, floor, one, other, distance):
        rolls = way(floor, one, other)
        self.assertIs(type(rolls), str)
        self.assertEqual(len(rolls), distance)
        self.assertEqual(walked(floor, one, rolls), other)
        self.assertEqual(rolls, least_row(floor, one, other))

    def test_every_way_on_small_floors(self):
        for name, floor, start in each_start():
            found = searched(floor, start)
            if len(found) <= 120:
                for other, distance in found.items():
                    with self.subTest(name, start=start, other=other):
                        self.assert_way(floor, start, other, distance)

    def test_some_ways_on_large_floors(self):
        for name, floor, start in each_start():
            found = searched(floor, start)
            if len(found) > 120:
                for other in sorted(found)[::29]:
                    with self.subTest(name, start=start, other=other):
                        self.assert_way(floor, start, other, found[other])

    def test_no_lesser_text_of_that_length_leads_there(self):
        for floor, start in [
            (["....", "....", "...."], ((1, 1), FIRST)),
            (["...", ".#.", "..."], ((2, 2), (4, 6, 2))),
            (["...", "...", "..."], ((0, 2), (6, 5, 3))),
        ]:
            rows = rows_tried(floor, start, 6)
            self.assertGreater(max([len(found) for found in rows.values()]), 1, "no choice among rows")
            for other, found in rows.items():
                self.assertEqual(way(floor, start, other), min(found))

    def test_the_order_of_texts_is_e_n_s_w(self):
        # Round a ring of eight both ways are as long, and each corner has a first roll of another pair.
        ring = ["...", ".#.", "..."]
        for place, across, rolls in [
            ((0, 0), (2, 2), "eess"), ((2, 0), (0, 2), "eenn"), ((0, 2), (2, 0), "ssww"), ((2, 2), (0, 0), "nnww"),
            ((0, 1), (2, 1), "essw"), ((1, 0), (1, 2), "nees"), ((1, 2), (1, 0), "nwws"), ((2, 1), (0, 1), "ennw"),
        ]:
            with self.subTest(place=place):
                self.assertEqual(way(ring, (place, FIRST), (across, moved_die(FIRST, rolls))), rolls)

    def test_the_row_of_none_from_a_stand_to_itself(self):
        for name, floor, start in each_start():
            with self.subTest(name, start=start):
                self.assertEqual(way(floor, start, start), "")

    def test_to_another_lie_on_the_same_cell(self):
        self.assertEqual(way(["..", ".."], START, ((0, 0), (4, 1, 5))), "eswn")
        self.assertEqual(way(["..", ".."], START, ((0, 0), (2, 4, 6))), "senw")

    def test_along_one_row(self):
        self.assertEqual(way(["........"], START, ((0, 7), moved_die(FIRST, "eeeeeee"))), "eeeeeee")
        self.assertEqual(way(["."] * 8, START, ((7, 0), moved_die(FIRST, "sssssss"))), "sssssss")


class NoWayTest(Case):
    def test_to_another_part_of_the_floor(self):
        for lie, there, place in itertools.product(RIGHT, RIGHT, [(0, 3), (1, 3)]):
            self.assert_refused(NoWay, way, PARTED, (place, lie), ((0, 0), there))
            self.assert_refused(NoWay, way, PARTED, ((0, 0), lie), (place, there))

    def test_across_a_corner(self):
        for lie in RIGHT:
            self.assert_refused(NoWay, way, [".#", "#."], START, ((1, 1), lie))

    def test_the_wrong_hand_or_colour(self):
        self.assert_refused(NoWay, way, OPEN, START, ((0, 1), FIRST))
        self.assert_refused(NoWay, way, OPEN, START, ((0, 0), (5, 1, 3)))
        for place, lie in itertools.product([(0, 0), (0, 1), (3, 4), (7, 7)], RIGHT):
            if colour(place) != own_hand(lie):
                self.assert_refused(NoWay, way, OPEN, START, (place, lie))
                self.assert_refused(NoWay, way, OPEN, (place, lie), START)
            else:
                self.assertEqual(walked(OPEN, START, way(OPEN, START, (place, lie))), (place, lie))

    def test_a_lie_that_no_row_leads_to(self):
        self.assert_refused(NoWay, way, ["."], START, ((0, 0), (1, 5, 4)))
        self.assert_refused(NoWay, way, ["..", ".."], START, ((0, 0), (1, 5, 4)))
        self.assert_refused(NoWay, way, ["........"], START, ((0, 2), FIRST))

    def test_every_stand_that_cannot_be_come_to(self):
        for floor in (["..", ".#"], ["...", ".#."], PARTED):
            found = searched(floor, START)
            for other in itertools.product(cells_of(floor), RIGHT):
                if other not in found:
                    self.assert_refused(NoWay, way, floor, START, other)


class ColourTest(Case):
    def test_colour_and_hand_are_both_as_the_starts_or_both_the_other_one(self):
        for name, floor, start in each_start():
            for place, lie in come_to(floor, start):
                with self.subTest(name, start=start, place=place, lie=lie):
                    colours = (colour(place) - colour(start[0])) % 2
                    self.assertEqual(colours, (own_hand(lie) - own_hand(start[1])) % 2)
                    self.assertEqual(colours, (hand(lie) - hand(start[1])) % 2)


class EndsTest(Case):
    def test_the_ends_at_every_cell(self):
        for name, floor, start in each_start():
            found = ends_searched(floor, start)
            for place in cells_of(floor)[::3] + [start[0]]:
                with self.subTest(name, start=start, place=place):
                    told = ends(floor, start, place)
                    self.assertEqual(told, found.get(place, []))
                    self.assertIs(type(told), list)
                    self.assertEqual([type(lie) for lie in told], [tuple] * len(told))

    def test_at_most_twelve_in_the_order_of_tuples(self):
        for place in [(0, 0), (0, 7), (3, 4), (7, 7)]:
            told = ends(OPEN, START, place)
            self.assertEqual(told, EVEN if colour(place) == 0 else [lie for lie in RIGHT if lie not in EVEN])
            self.assertEqual(len(told), 12)
        for name, floor, start in each_start():
            for place, found in itertools.groupby(sorted(come_to(floor, start)), lambda stand: stand[0]):
                self.assertLessEqual(len(list(found)), 12, (name, start, place))

    def test_on_floors_of_one_lie_a_cell(self):
        self.assertEqual(ends(["."], START, (0, 0)), [FIRST])
        self.assertEqual(ends(["...."], START, (0, 0)), [FIRST])
        self.assertEqual(ends(["...."], START, (0, 1)), [(4, 2, 1)])
        self.assertEqual(ends(["...."], START, (0, 3)), [(3, 2, 6)])

    def test_on_a_floor_of_four_cells(self):
        self.assertEqual(ends(["..", ".."], START, (0, 0)), [(1, 2, 3), (2, 4, 6), (4, 1, 5)])
        self.assertEqual(ends(["..", ".."], START, (0, 1)), [(1, 4, 2), (2, 1, 4), (4, 2, 1)])

    def test_at_a_cell_that_cannot_be_come_to(self):
        for place in [(0, 3), (1, 3)]:
            self.assertEqual(ends(PARTED, START, place), [])
        self.assertEqual(ends(PARTED, ((1, 3), FIRST), (0, 0)), [])
        self.assertEqual(ends([".#", "#."], START, (1, 1)), [])


class FirmTest(Case):
    def test_one_cell(self):
        for lie in RIGHT:
            self.assertEqual(firm(["."], ((0, 0), lie)), [(0, 0)])
        self.assertEqual(firm(["##", "#."], ((1, 1), FIRST)), [(1, 1)])

    def test_one_row_and_one_column(self):
        for column in range(8):
            self.assertEqual(firm(["........"], ((0, column), FIRST)), [(0, other) for other in range(8)])
            self.assertEqual(firm(["."] * 8, ((column, 0), FIRST)), [(other, 0) for other in range(8)])

    def test_where_no_cell_is_firm(self):
        for floor in (["..", ".."], ["...", "..."], OPEN, FLOORS["a ring of twelve"], FLOORS["two rings"]):
            self.assertEqual(firm(floor, START), [])

    def test_where_every_cell_is_firm(self):
        for name in ("a corner", "a ring of eight"):
            self.assertEqual(firm(FLOORS[name], START), cells_of(FLOORS[name]))

    def test_one_top_in_two_lies_is_firm(self):
        floor = FLOORS["a ring of ten"]
        self.assertEqual(firm(floor, START), [(1, 0), (1, 3)])
        self.assertEqual(len(ends(floor, START, (1, 0))), 2)
        self.assertEqual(firm(FLOORS["a ring of ten upright"], START), [(0, 1), (3, 1)])

    def test_cells_that_cannot_be_come_to_are_not_told(self):
        self.assertEqual(firm(PARTED, START), [(0, 0), (0, 1), (1, 0)])
        self.assertEqual(firm(PARTED, ((1, 3), FIRST)), [(0, 3), (1, 3)])

    def test_against_the_tops_of_a_search(self):
        for name, floor, start in each_start():
            with self.subTest(name, start=start):
                found = ends_searched(floor, start)
                firm_cells = [place for place in sorted(found) if len({lie[0] for lie in found[place]}) == 1]
                told = firm(floor, start)
                self.assertEqual(told, firm_cells)
                self.assertIs(type(told), list)
                self.assertEqual([type(place) for place in told], [tuple] * len(told))


if __name__ == "__main__":
    unittest.main()
