"""Traps: the crowds for which there is no plan, how a foe keeps one in them, and what it answers."""

from halfseen.crowds import checked_deed, led_to, parted
from halfseen.finding import coming_from, crowds_in, depths_of, cost_at_worst
from halfseen.works import begin_of, checked, checked_crowd, checked_looks


def without_depth(crowds, depths):
    return [crowd for crowd in crowds if crowd not in depths]


# Rows rise by what is seen, so the first trap in them is the one seen least.
def first_trap(rows, depths):
    return without_depth(crowds_in(rows), depths)[0]


def traps(works, looks):
    checked(works)
    checked_looks(works, looks)
    coming = coming_from(works, looks, begin_of(works))
    return sorted(without_depth(coming, depths_of(works, coming)))


def why_none(works, looks):
    checked(works)
    checked_looks(works, looks)
    rows = parted(works, looks, begin_of(works))
    coming = coming_from(works, looks, begin_of(works))
    depths = depths_of(works, coming)
    if cost_at_worst(rows, depths) is not None:
        return None
    return (first_trap(rows, depths), sorted(without_depth(coming, depths)))


def held_in(works, looks):
    checked(works)
    checked_looks(works, looks)
    coming = coming_from(works, looks, begin_of(works))
    depths = depths_of(works, coming)
    told = []
    for trap in sorted(without_depth(coming, depths)):
        told.append((trap, [(deed, first_trap(rows, depths)) for deed, rows in coming[trap]]))
    return told


# A part without a plan has no depth, and cost_at_worst is None just where there is one: so both
# cases of the foe's answer are asked for alike.
def foe_answer(works, looks, crowd, deed):
    checked(works)
    checked_looks(works, looks)
    checked_crowd(works, crowd)
    checked_deed(works, crowd, deed)
    behind = led_to(works, crowd, deed)
    depths = depths_of(works, coming_from(works, looks, behind))
    rows = parted(works, looks, behind)
    most = cost_at_worst(rows, depths)
    return [seen for seen, part in rows if depths.get(part) == most][0]
