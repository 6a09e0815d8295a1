"""Finding plans: the fewest deeds that a choice of looks asks for, and a plan with so many."""

from halfseen.crowds import deeds_with, is_there, led_to, parted
from halfseen.works import begin_of, checked, checked_looks

DONE = ("done",)


# Rows are tuples (seen, part), as parted tells them; ways are tuples (deed, rows), the rows
# being those of the crowd to which the deed leads.


def crowds_in(rows):
    return [row[1] for row in rows]


def ways_with(works, looks, crowd):
    return [(deed, parted(works, looks, led_to(works, crowd, deed))) for deed in deeds_with(works, crowd)]


def coming_from(works, looks, crowd):
    coming = {}
    waiting = crowds_in(parted(works, looks, crowd))
    while len(waiting) > 0:
        part = waiting.pop()
        if part not in coming:
            coming[part] = ways_with(works, looks, part)
            for way in coming[part]:
                waiting.extend(crowds_in(way[1]))
    return coming


def way_with_fewer(ways, depths, deeds):
    for way in ways:
        if all([part in depths and depths[part] < deeds for part in crowds_in(way[1])]):
            return way
    return None


# A crowd for which there is no plan has no depth. Crowds with fewer deeds stand ahead of
# those with more, which steps_of needs.
def depths_of(works, coming):
    depths = {}
    deeds = 0
    found = [crowd for crowd in coming if is_there(works, crowd)]
    # Where no crowd needs just so many deeds, none needs more: one deed less would bring it there.
    while len(found) > 0:
        for crowd in found:
            depths[crowd] = deeds
        deeds += 1
        left = [crowd for crowd in coming if crowd not in depths]
        found = [crowd for crowd in left if way_with_fewer(coming[crowd], depths, deeds) is not None]
    return depths


def most_deeds(rows, depths):
    if not all([part in depths for part in crowds_in(rows)]):
        return None
    return max([depths[part] for part in crowds_in(rows)])


def plan_of(rows, steps):
    return tuple([(seen, steps[part]) for seen, part in rows])


# What a step leads to was put together ahead of it, so no recursion is needed: plans may have
# more deeds that follow one another than a recursion should be deep.
def steps_of(coming, depths):
    steps = {}
    for crowd in depths:
        if depths[crowd] == 0:
            steps[crowd] = DONE
        else:
            way = way_with_fewer(coming[crowd], depths, depths[crowd])
            steps[crowd] = ("do", way[0], plan_of(way[1], steps))
    return steps


def fewest(works, looks):
    checked(works)
    checked_looks(works, looks)
    begin = begin_of(works)
    depths = depths_of(works, coming_from(works, looks, begin))
    return most_deeds(parted(works, looks, begin), depths)


def a_plan(works, looks):
    checked(works)
    checked_looks(works, looks)
    rows = parted(works, looks, begin_of(works))
    coming = coming_from(works, looks, begin_of(works))
    depths = depths_of(works, coming)
    if most_deeds(rows, depths) is None:
        return None
    return plan_of(rows, steps_of(coming, depths))
