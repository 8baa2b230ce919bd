"""The floor, a list of texts, its cells, and a die that is rolled from one of them to the next."""

from rolldie.errors import NoCell, NoFloor, NoRoll
from rolldie.lies import check_lie, rolled_once

CELL = "."
GAP = "#"
MOST = 8

# How far each roll leads, in rows to the south and columns to the east.
STEPS = {"e": (0, 1), "n": (-1, 0), "s": (1, 0), "w": (0, -1)}


def is_row(row, width):
    return len(row) == width and all([sign in (CELL, GAP) for sign in row])


def is_floor(floor):
    if not 1 <= len(floor) <= MOST:
        return False
    width = len(floor[0])
    return 1 <= width <= MOST and all([is_row(row, width) for row in floor])


def check_floor(floor):
    if not is_floor(floor):
        raise NoFloor(f"{floor!r} is no floor")


# Python counts a number below 0 from the far end, where a floor has no cell: so both ends are asked for.
def is_cell(floor, place):
    row = place[0]
    column = place[1]
    if not 0 <= row < len(floor):
        return False
    if not 0 <= column < len(floor[row]):
        return False
    return floor[row][column] == CELL


def check_place(floor, place):
    if not is_cell(floor, place):
        raise NoCell(f"{place!r} is no cell of the floor")


def check_stand(floor, stand):
    check_place(floor, stand[0])
    check_lie(stand[1])


def looked(floor):
    check_floor(floor)
    return sum([row.count(CELL) for row in floor])


def next_place(place, roll):
    step = STEPS[roll]
    return (place[0] + step[0], place[1] + step[1])


# None where the roll can't be done: a search asks for all four and goes on without a refusal.
def next_stand(floor, stand, roll):
    if roll not in STEPS:
        return None
    place = next_place(stand[0], roll)
    if not is_cell(floor, place):
        return None
    return (place, rolled_once(stand[1], roll))


def walked(floor, stand, rolls):
    check_floor(floor)
    check_stand(floor, stand)
    for roll in rolls:
        after = next_stand(floor, stand, roll)
        if after is None:
            raise NoRoll(f"the roll {roll!r} can't be done from {stand!r}")
        stand = after
    return stand
