"""Nothing that is handed in is changed or kept; what is told is the asker's own."""

import unittest

from rolldie.errors import DieError
from rolldie.floors import looked, walked
from rolldie.lies import lies
from rolldie.turns import behind, turns
from rolldie.ways import come_to, ends, firm, way
from tests.helper import FIRST, FLOORS, NO_FLOORS, RIGHT, Case, cells_of, searched, starts_of

START = ((0, 0), FIRST)

# Every function that is handed a floor, each with a stand of it.
ASKS = {
    "looked": lambda floor, stand: looked(floor),
    "walked": lambda floor, stand: walked(floor, stand, ""),
    "walked off": lambda floor, stand: walked(floor, stand, "nnnnnnnn"),
    "come_to": come_to,
    "way": lambda floor, stand: way(floor, stand, stand),
    "no way": lambda floor, stand: way(floor, stand, (stand[0], RIGHT[1])),
    "ends": lambda floor, stand: ends(floor, stand, stand[0]),
    "firm": firm,
    "turns": lambda floor, stand: turns(floor, stand[0]),
}

TELLS_A_LIST_OR_DICT = {
    "lies": lambda floor, stand: lies(),
    "come_to": come_to,
    "ends": lambda floor, stand: ends(floor, stand, stand[0]),
    "firm": firm,
    "turns": lambda floor, stand: turns(floor, stand[0]),
}


def answer(ask, floor, stand):
    try:
        return ask(floor, stand)
    except DieError as refusal:
        return type(refusal)


class HandedInTest(Case):
    def test_a_floor_is_as_it_was(self):
        for kinds in (FLOORS, NO_FLOORS):
            for name, floor in kinds.items():
                for ask in ASKS:
                    with self.subTest(name, ask=ask):
                        handed = list(floor)
                        answer(ASKS[ask], handed, START)
                        self.assertEqual(handed, floor)

    def test_a_floor_that_is_changed_later_changes_nothing_that_was_told(self):
        handed = ["...", ".#.", "..."]
        told = come_to(handed, START), ends(handed, START, (0, 0)), firm(handed, START), turns(handed, (0, 0))
        again = dict(told[0]), list(told[1]), list(told[2]), list(told[3])
        handed[1] = "..."
        handed.append("...")
        self.assertEqual(told, again)

    def test_a_floor_that_is_changed_is_looked_at_anew(self):
        # One list handed in again and again, with another floor in it each time.
        handed = []
        for name, floor in list(FLOORS.items()) + list(NO_FLOORS.items()) + list(FLOORS.items()):
            handed[:] = floor
            for ask in ASKS:
                with self.subTest(name, ask=ask):
                    self.assertEqual(answer(ASKS[ask], handed, START), answer(ASKS[ask], list(floor), START))
            if name in FLOORS and floor[0][0] == ".":
                self.assertEqual(looked(handed), len(cells_of(floor)))
                self.assertEqual(come_to(handed, START), searched(floor, START))

    def test_asking_again_tells_the_same(self):
        for name, floor in FLOORS.items():
            for stand in starts_of(floor):
                for ask in ASKS:
                    with self.subTest(name, stand=stand, ask=ask):
                        self.assertEqual(answer(ASKS[ask], floor, stand), answer(ASKS[ask], floor, stand))


class ToldTest(Case):
    def test_what_was_told_can_be_changed_and_the_next_is_still_whole(self):
        for name, floor in FLOORS.items():
            stand = starts_of(floor)[0]
            for kind, ask in TELLS_A_LIST_OR_DICT.items():
                with self.subTest(name, ask=kind):
                    told = ask(floor, stand)
                    whole = told.copy()
                    told.clear()
                    self.assertEqual(ask(floor, stand), whole)
                    for key in list(whole)[:1]:
                        told = ask(floor, stand)
                        told[key if kind == "come_to" else 0] = -1
                    self.assertEqual(ask(floor, stand), whole)

    def test_no_two_that_were_told_are_one(self):
        floor = ["..", ".#"]
        told = [ask(floor, START) for ask in TELLS_A_LIST_OR_DICT.values() for number in range(2)]
        self.assertEqual(len({id(each) for each in told}), len(told))
        for each in told:
            self.assertIsNot(each, floor)

    def test_a_changed_list_does_not_change_another_function(self):
        floor = ["..", ".."]
        whole = turns(floor, (0, 0))
        ends(floor, START, (0, 0)).clear()
        come_to(floor, START).clear()
        lies().clear()
        self.assertEqual(turns(floor, (0, 0)), whole)
        self.assertEqual(behind(FIRST, (5, 1, 3)), (5, 1, 3))
        self.assertEqual(come_to(floor, START), searched(floor, START))


if __name__ == "__main__":
    unittest.main()
