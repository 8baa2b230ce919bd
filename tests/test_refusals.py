"""Which refusal is told where several could be: NoFloor, NoCell, NoLie, NoRoll, NoWay, a first stand's ahead of
a second one's. For each function every mixture of right and wrong inputs is handed in.
"""

import itertools
import unittest

from rolldie.errors import NoCell, NoFloor, NoLie, NoRoll, NoWay
from rolldie.floors import looked, walked
from rolldie.lies import hand, rolled, times
from rolldie.turns import behind, turns
from rolldie.ways import come_to, ends, firm, way
from tests.helper import FIRST, PARTED, Case, searched

# What can be handed in, each with the refusal that it asks for, if any.
FLOORS = [
    (PARTED, None), ([], NoFloor), ([""], NoFloor), (["..#.", ".#."], NoFloor), (["..#.", ".#x."], NoFloor),
    (["..#."] * 9, NoFloor), (["." * 9], NoFloor),
]
PLACES = [((0, 0), None), ((0, 2), NoCell), ((-1, 0), NoCell), ((0, -1), NoCell), ((2, 0), NoCell), ((0, 4), NoCell)]
LIES = [(FIRST, None), ((1, 5, 4), None), ((1, 3, 2), NoLie), ((0, 0, 0), NoLie), ((1, 6, 2), NoLie)]
ROLLS = [("", None), ("e", None), ("n", NoRoll), ("ee", NoRoll), ("x", NoRoll), ("ex", NoRoll), ("sx", NoRoll)]
OTHER_PLACES = [((1, 0), None), ((0, 3), None), ((1, 2), NoCell), ((-2, 0), NoCell), ((1, 1000), NoCell)]
OTHER_LIES = [((2, 6, 3), None), (FIRST, None), ((2, 1, 3), NoLie), ((7, 7, 7), NoLie)]
LIE_ROLLS = [("", None), ("ne", None), ("x", NoRoll), ("nX", NoRoll), (" n", NoRoll)]


def mixtures(*kinds):
    """All mixtures of one each, with the refusal that is to be told: that of the first that asks for one."""
    for chosen in itertools.product(*kinds):
        refusals = [refusal for value, refusal in chosen if refusal is not None]
        yield [value for value, refusal in chosen], (refusals + [None])[0]


class OrderTest(Case):
    def assert_told(self, refusal, ask, *handed):
        if refusal is None:
            ask(*handed)
        else:
            self.assert_refused(refusal, ask, *handed)

    def test_looked(self):
        for (floor,), refusal in mixtures(FLOORS):
            self.assert_told(refusal, looked, floor)

    def test_walked(self):
        for (floor, place, lie, rolls), refusal in mixtures(FLOORS, PLACES, LIES, ROLLS):
            self.assert_told(refusal, walked, floor, (place, lie), rolls)

    def test_come_to(self):
        for (floor, place, lie), refusal in mixtures(FLOORS, PLACES, LIES):
            self.assert_told(refusal, come_to, floor, (place, lie))

    def test_firm(self):
        for (floor, place, lie), refusal in mixtures(FLOORS, PLACES, LIES):
            self.assert_told(refusal, firm, floor, (place, lie))

    def test_way(self):
        no_way = 0
        for handed, refusal in mixtures(FLOORS, PLACES, LIES, OTHER_PLACES, OTHER_LIES):
            floor, place, lie, other_place, other_lie = handed
            if refusal is None and (other_place, other_lie) not in searched(floor, (place, lie)):
                refusal = NoWay
                no_way += 1
            self.assert_told(refusal, way, floor, (place, lie), (other_place, other_lie))
        self.assertGreater(no_way, 0)

    def test_all_of_the_first_stand_goes_ahead_of_the_second(self):
        self.assert_refused(NoLie, way, PARTED, ((0, 0), (1, 3, 2)), ((0, 2), FIRST))
        self.assert_refused(NoCell, way, PARTED, ((0, 2), FIRST), ((0, 0), (1, 3, 2)))
        self.assert_refused(NoLie, way, PARTED, ((0, 0), FIRST), ((0, 3), (1, 3, 2)))
        self.assert_refused(NoCell, way, PARTED, ((0, 0), FIRST), ((0, 2), (1, 3, 2)))

    def test_ends(self):
        for (floor, place, lie, other), refusal in mixtures(FLOORS, PLACES, LIES, OTHER_PLACES):
            self.assert_told(refusal, ends, floor, (place, lie), other)

    def test_of_ends_the_stand_goes_ahead_of_the_place(self):
        self.assert_refused(NoLie, ends, PARTED, ((0, 0), (1, 3, 2)), (0, 2))
        self.assert_refused(NoCell, ends, PARTED, ((0, 0), FIRST), (0, 2))
        self.assert_refused(NoCell, ends, PARTED, ((0, 2), (1, 3, 2)), (0, 0))

    def test_turns(self):
        for (floor, place), refusal in mixtures(FLOORS, PLACES):
            self.assert_told(refusal, turns, floor, place)

    def test_behind(self):
        for (one, other), refusal in mixtures(LIES, OTHER_LIES):
            self.assert_told(refusal, behind, one, other)

    def test_the_lies_alone(self):
        for (lie,), refusal in mixtures(LIES):
            self.assert_told(refusal, hand, lie)
        for (lie, rolls), refusal in mixtures(LIES, LIE_ROLLS):
            self.assert_told(refusal, rolled, lie, rolls)
        for (rolls,), refusal in mixtures(LIE_ROLLS):
            self.assert_told(refusal, times, rolls)


if __name__ == "__main__":
    unittest.main()
