"""The turns of a cell, and the turn of one row of rolls behind another."""

from rolldie.lies import FIRST_LIE, across, check_lie
from rolldie.ways import ends


# The turn of a row is the lie to which it leads from the first lie: so the rows that lead back
# have just those turns in which a die, first put there in the first lie, can come to lie there again.
def turns(floor, place):
    return ends(floor, (place, FIRST_LIE), place)


# The number that a lie shows on the side where the first lie shows the given one.
def shown_at(lie, number):
    if number in FIRST_LIE:
        return lie[FIRST_LIE.index(number)]
    return across(lie[FIRST_LIE.index(across(number))])


# The turn other tells, for each side, from which side of the first lie its number came;
# from there its rows bring the numbers of any lie, those of one too.
def behind(one, other):
    check_lie(one)
    check_lie(other)
    return (shown_at(one, other[0]), shown_at(one, other[1]), shown_at(one, other[2]))
