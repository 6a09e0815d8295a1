"""Luck and patience: what they help, how strong a choice of looks is, and what is needed seeing nothing, or all."""

from halfseen.crowds import parted
from halfseen.finding import a_plan, best_way, coming_from, costs_of, crowds_in, fewest, reached_from
from halfseen.works import begin_of, checked, checked_looks, deeds_of, goal_of, states_of


def parts_of_begin(works, looks):
    return crowds_in(parted(works, looks, begin_of(works)))


def deeds_by_luck(way, luck):
    least = min([luck[part] for part in crowds_in(way[1]) if part in luck], default=None)
    return None if least is None else least + 1


def by_luck(works, looks):
    checked(works)
    checked_looks(works, looks)
    luck = costs_of(works, coming_from(works, looks, begin_of(works)), deeds_by_luck)
    return min([luck[part] for part in parts_of_begin(works, looks) if part in luck], default=None)


def ways_within(reach, crowds):
    found = {}
    for crowd in crowds:
        found[crowd] = [way for way in reach[crowd] if all([part in crowds for part in crowds_in(way[1])])]
    return found


# Crowds that luck does not help are left out, and so are the ways that may lead to them. Then
# luck may help fewer crowds: it is asked anew, until it helps all that are left.
def patient_reach(works, coming):
    reach = coming
    luck = costs_of(works, reach, deeds_by_luck)
    while len(luck) < len(reach):
        reach = ways_within(reach, luck)
        luck = costs_of(works, reach, deeds_by_luck)
    return reach


# The deed that luck would choose leads, by some part, to a crowd with one deed less to go: so
# from each crowd the table's deeds may lead to where one is there.
def patient_ways(reach, luck, crowd):
    return [] if luck[crowd] == 0 else [best_way(reach[crowd], luck, deeds_by_luck)]


def patient_table(works, looks):
    checked(works)
    checked_looks(works, looks)
    reach = patient_reach(works, coming_from(works, looks, begin_of(works)))
    first = parts_of_begin(works, looks)
    if not all([part in reach for part in first]):
        return None
    luck = costs_of(works, reach, deeds_by_luck)
    table = reached_from(first, lambda crowd: patient_ways(reach, luck, crowd))
    return [(crowd, table[crowd][0][0] if len(table[crowd]) > 0 else None) for crowd in sorted(table)]


def strength(works, looks):
    if fewest(works, looks) is not None:
        return "sure"
    if patient_table(works, looks) is not None:
        return "patient"
    if by_luck(works, looks) is not None:
        return "lucky"
    return "never"


# With no look there is one part alone behind each deed: such a plan is a row of deeds.
def blind_row(works):
    plan = a_plan(works, ())
    if plan is None:
        return None
    told = []
    step = plan[0][1]
    while len(step) > 1:
        told.append(step[1])
        step = step[2][0][1]
    return told


def seen_whole(works):
    checked(works)
    look = tuple(range(states_of(works)))
    return fewest((states_of(works), deeds_of(works), (look,), begin_of(works), goal_of(works)), (0,))
