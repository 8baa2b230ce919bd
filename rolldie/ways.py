"""Where a die can come to lie how, and by which shortest rolls."""

from rolldie.errors import NoWay
from rolldie.floors import check_floor, check_place, check_stand, next_stand

# In the order of texts: the search below hangs on it.
ROLLS = "ensw"


# For each stand that can be come to, the first of the shortest rows that lead there. The stands
# of one length are walked in the order of their rows, and each is rolled in the order of ROLLS:
# so the row that is first to come to a stand is the least one, and the next length is in order too.
def first_rows(floor, start):
    rows = {start: ""}
    edge = [start]
    while len(edge) > 0:
        beyond = []
        for stand in edge:
            for roll in ROLLS:
                after = next_stand(floor, stand, roll)
                if after is not None and after not in rows:
                    rows[after] = rows[stand] + roll
                    beyond.append(after)
        edge = beyond
    return rows


def come_to(floor, stand):
    check_floor(floor)
    check_stand(floor, stand)
    rows = first_rows(floor, stand)
    distances = {}
    for found in rows:
        distances[found] = len(rows[found])
    return distances


def way(floor, one, other):
    check_floor(floor)
    check_stand(floor, one)
    check_stand(floor, other)
    rows = first_rows(floor, one)
    if other not in rows:
        raise NoWay(f"no row of rolls leads from {one!r} to {other!r}")
    return rows[other]


def ends(floor, stand, place):
    check_floor(floor)
    check_stand(floor, stand)
    check_place(floor, place)
    return sorted([found[1] for found in first_rows(floor, stand) if found[0] == place])


def tops_by_place(stands):
    tops = {}
    for stand in stands:
        top = stand[1][0]
        seen = tops.setdefault(stand[0], [])
        if top not in seen:
            seen.append(top)
    return tops


def firm(floor, stand):
    tops = tops_by_place(come_to(floor, stand))
    return sorted([place for place in tops if len(tops[place]) == 1])
