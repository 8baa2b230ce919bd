"""The lies of a die, as tuples (top, north, east), and how rolls turn them."""

from rolldie.errors import NoLie, NoRoll

FIRST_LIE = (1, 2, 3)


# Numbers across from one another add up to 7; so 1, 2 and 3 can stand for the three pairs.
def across(number):
    return 7 - number


def pairs_of(lie):
    return [min(number, across(number)) for number in lie]


def has_odd_high(lie):
    high = [number for number in lie if number > 3]
    return len(high) % 2 == 1


# A roll makes two pairs change places and puts the number across in the stead of one number.
# So in a right lie the pairs are an odd number of changes away from 1, 2, 3 just where
# an odd number of its numbers is high.
def is_lie(lie):
    pairs = pairs_of(lie)
    if sorted(pairs) != [1, 2, 3]:
        return False
    odd_order = (pairs[1] - pairs[0]) % 3 != 1
    return odd_order == has_odd_high(lie)


def check_lie(lie):
    if not is_lie(lie):
        raise NoLie(f"{lie!r} is no right lie")


def lies():
    found = []
    for top in range(1, 7):
        for north in range(1, 7):
            for east in range(1, 7):
                if is_lie((top, north, east)):
                    found.append((top, north, east))
    return found


# Each roll changes by one how many numbers are high, and the first lie has none of them.
def hand(lie):
    check_lie(lie)
    return 1 if has_odd_high(lie) else 0


def rolled_once(lie, roll):
    top = lie[0]
    north = lie[1]
    east = lie[2]
    if roll == "n":
        return (across(north), top, east)
    if roll == "e":
        return (across(east), north, top)
    if roll == "s":
        return (north, across(top), east)
    if roll == "w":
        return (east, north, across(top))
    raise NoRoll(f"{roll!r} is no roll")


def rolled(lie, rolls):
    check_lie(lie)
    for roll in rolls:
        lie = rolled_once(lie, roll)
    return lie


# Rolls turn the die in the floor's directions, whatever numbers it shows: a row that leads
# one lie back leads each of them back, so the first lie speaks for all.
def times(rolls):
    lie = rolled(FIRST_LIE, rolls)
    count = 1
    while lie != FIRST_LIE:
        lie = rolled(lie, rolls)
        count = count + 1
    return count
