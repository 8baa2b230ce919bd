"""What several tests need: a die of six sides that is moved as a whole, floors, and a search of the tests' own."""

import unittest

FIRST = (1, 2, 3)

RIGHT = [
    (1, 2, 3), (1, 3, 5), (1, 4, 2), (1, 5, 4),
    (2, 1, 4), (2, 3, 1), (2, 4, 6), (2, 6, 3),
    (3, 1, 2), (3, 2, 6), (3, 5, 1), (3, 6, 5),
    (4, 1, 5), (4, 2, 1), (4, 5, 6), (4, 6, 2),
    (5, 1, 3), (5, 3, 6), (5, 4, 1), (5, 6, 4),
    (6, 2, 4), (6, 3, 2), (6, 4, 5), (6, 5, 3),
]

EVEN = [
    (1, 2, 3), (1, 5, 4), (2, 3, 1), (2, 4, 6), (3, 1, 2), (3, 6, 5),
    (4, 1, 5), (4, 6, 2), (5, 3, 6), (5, 4, 1), (6, 2, 4), (6, 5, 3),
]

WRONG = {
    "two numbers of one pair": [(1, 6, 2), (2, 3, 5), (3, 1, 4), (6, 1, 3), (4, 3, 1), (5, 6, 2)],
    "a number twice": [(1, 1, 2), (2, 3, 2), (4, 5, 5), (6, 6, 6), (1, 1, 1)],
    "a number on no side": [
        (0, 2, 3), (1, 0, 3), (1, 2, 0), (7, 2, 3), (1, 7, 3), (1, 2, 7), (0, 0, 0), (7, 7, 7),
        (-1, 2, 3), (1, -2, 3), (1, 2, -3), (-1, -2, -3), (8, 9, 10), (8, 2, 3), (1, 9, 3), (1, 2, -4),
        (1000, 2, 3), (1, -1000, 3), (1, 2, 1000), (-1000, -1000, -1000), (1000, 1000, 1000),
    ],
    "turned the other way": [(1, 3, 2), (2, 1, 3), (3, 2, 1), (6, 2, 3), (1, 5, 3), (1, 2, 4), (6, 5, 4)],
}

WRONG_LIES = [lie for wrong in WRONG.values() for lie in wrong]

# Where each side of the die goes when it is rolled: to the key's side comes the side that is named.
MOVES = {
    "n": {"north": "top", "top": "south", "south": "bottom", "bottom": "north", "east": "east", "west": "west"},
    "e": {"east": "top", "top": "west", "west": "bottom", "bottom": "east", "north": "north", "south": "south"},
    "s": {"south": "top", "top": "north", "north": "bottom", "bottom": "south", "east": "east", "west": "west"},
    "w": {"west": "top", "top": "east", "east": "bottom", "bottom": "west", "north": "north", "south": "south"},
}

BACK = {"n": "s", "e": "w", "s": "n", "w": "e"}

STEPS = {"n": (-1, 0), "e": (0, 1), "s": (1, 0), "w": (0, -1)}

# From the blank to ~, as the document bounds the signs that are handed in.
SIGNS = [chr(code) for code in range(ord(" "), ord("~") + 1) if chr(code) != "%"]

OTHER_LETTERS = [sign for sign in SIGNS if sign not in "nesw"]

OPEN = ["." * 8] * 8

# In two parts: the three cells to the west, and the two to the east.
PARTED = ["..#.", ".##."]

FLOORS = {
    "one cell": ["."],
    "one cell among gaps": ["###", "#.#", "###"],
    "one row": ["........"],
    "one row with a gap": ["..#....."],
    "one column": ["."] * 8,
    "one column with gaps": [".", ".", "#", ".", "."],
    "four cells": ["..", ".."],
    "four cells and a tail": ["..#", "...", "##."],
    "six cells": ["...", "..."],
    "a corner": [".##", ".##", "..."],
    "a ring of eight": ["...", ".#.", "..."],
    "a ring of ten": ["....", ".##.", "...."],
    "a ring of ten upright": ["...", ".#.", ".#.", "..."],
    "a ring of twelve": ["....", ".##.", ".##.", "...."],
    "two rings": ["......", ".##.#.", "....#.", "###..."],
    "two parts": PARTED,
    "two parts with rings": ["..#...", "..#.#.", "###...", ".....#"],
    "three rows and four columns": ["....", "....", "...."],
    "a snake": ["........", "#######.", "........", ".#######", "........", "#######.", "........", ".#######"],
    "eight rows and columns with gaps": [
        "....#...", ".##...#.", ".#..#.#.", "...#....", "#.#..##.", "....#...", ".##...#.", "....#..."
    ],
    "eight rows and columns": OPEN,
}

NO_FLOORS = {
    "no rows": [],
    "nine rows": ["..."] * 9,
    "nine rows of one": ["."] * 9,
    "twelve rows": ["........"] * 12,
    "a longer row first": ["....", "...", "..."],
    "a longer row amid": ["...", "....", "..."],
    "a longer row last": ["...", "...", "...."],
    "a shorter row first": ["..", "...", "..."],
    "a shorter row amid": ["...", "..", "..."],
    "a shorter row last": ["...", "...", ".."],
    "one empty row": [""],
    "empty rows alone": ["", "", ""],
    "eight empty rows": [""] * 8,
    "an empty row first": ["", "..", ".."],
    "an empty row amid": ["..", "", ".."],
    "an empty row last": ["..", "..", ""],
    "a row of nine signs": ["........."],
    "rows of nine signs": ["........."] * 3,
    "rows of nine signs without a cell": ["#########"] * 2,
    "a row of sixty signs": ["." * 60],
    "nine signs among eight": ["........", ".........", "........"],
    "another sign first": ["x..", "...", "..."],
    "another sign amid": ["...", ".x.", "..."],
    "another sign last": ["...", "...", "..x"],
    "a blank": [". ."],
    "another sign alone": ["o"],
    "a row in two kinds": ["..,", "##;"],
}


def moved_die(lie, rolls):
    top, north, east = lie
    die = {"top": top, "north": north, "east": east, "bottom": 7 - top, "south": 7 - north, "west": 7 - east}
    for roll in rolls:
        die = {side: die[source] for side, source in MOVES[roll].items()}
    return (die["top"], die["north"], die["east"])


MOVED = {(lie, roll): moved_die(lie, roll) for lie in RIGHT for roll in MOVES}


def cells_of(floor):
    return [(row, column) for row, signs in enumerate(floor) for column, sign in enumerate(signs) if sign == "."]


def neighbours(cells, stand):
    """The stands one roll away, each with its roll."""
    (row, column), lie = stand
    for roll, (down, right) in STEPS.items():
        place = (row + down, column + right)
        if place in cells:
            yield roll, (place, MOVED[lie, roll])


def searched(floor, start):
    """All stands that can be come to, each with its distance."""
    cells = set(cells_of(floor))
    distances = {start: 0}
    edge = {start}
    number = 0
    while edge:
        number += 1
        edge = {after for stand in edge for _, after in neighbours(cells, stand)} - set(distances)
        distances.update(dict.fromkeys(edge, number))
    return distances


def starts_of(floor):
    """Some stands to start from: the first cell, a middle one and the last, in unlike lies."""
    cells = cells_of(floor)
    places = sorted({cells[0], cells[len(cells) // 2], cells[-1]})
    return list(zip(places, [FIRST, (4, 6, 2), (5, 1, 3)]))


class Case(unittest.TestCase):
    def assert_refused(self, refusal, ask, *handed):
        with self.assertRaises(ValueError, msg=handed) as caught:
            ask(*handed)
        self.assertIs(type(caught.exception), refusal, handed)
