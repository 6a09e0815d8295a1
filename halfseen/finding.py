"""Finding plans: the fewest deeds that a choice of looks asks for, and a plan with so many."""

from halfseen.crowds import deeds_with, is_there, led_to, parted
from halfseen.works import begin_of, checked, checked_looks

DONE = ("done",)


# Rows are tuples (seen, part), as parted tells them. A way is a tuple: how one goes on, by a deed
# or otherwise, and the rows of what may come then. A reach is a dict of crowds with their ways.
# Plans, luck and prices differ only in what a way costs. That is for a cost_by to tell, by the costs
# that are known of the crowds behind it: more than the greatest of them, or than the least, where
# luck chooses; None, where too few are known.


def crowds_in(rows):
    return [row[1] for row in rows]


def reached_from(crowds, ways_for):
    reach = {}
    waiting = list(crowds)
    while len(waiting) > 0:
        crowd = waiting.pop()
        if crowd not in reach:
            reach[crowd] = ways_for(crowd)
            for way in reach[crowd]:
                waiting.extend(crowds_in(way[1]))
    return reach


def least_cost(ways, costs, cost_by):
    told = [cost_by(way, costs) for way in ways]
    return min([cost for cost in told if cost is not None], default=None)


def next_costs(reach, costs, cost_by):
    found = {}
    for crowd in reach:
        if crowd not in costs:
            cost = least_cost(reach[crowd], costs, cost_by)
            if cost is not None:
                found[crowd] = cost
    return found


# Crowds that cost less stand ahead of those that cost more, which steps_of needs; one that never
# leads to where one is there has no cost. The least of the next costs is a final one: each other
# way to that crowd leads through one that costs as much at least.
def costs_of(works, reach, cost_by):
    costs = {}
    cost = 0
    found = [crowd for crowd in reach if is_there(works, crowd)]
    while len(found) > 0:
        for crowd in found:
            costs[crowd] = cost
        offered = next_costs(reach, costs, cost_by)
        cost = min([offered[crowd] for crowd in offered], default=None)
        found = [crowd for crowd in offered if offered[crowd] == cost]
    return costs


def best_way(ways, costs, cost_by):
    least = least_cost(ways, costs, cost_by)
    return [way for way in ways if cost_by(way, costs) == least][0]


# What a step leads to was put together ahead of it, so no recursion is needed: plans may have
# more deeds that follow one another than a recursion should be deep.
def steps_of(reach, costs, cost_by, step_by):
    steps = {}
    for crowd in costs:
        if costs[crowd] == 0:
            steps[crowd] = DONE
        else:
            steps[crowd] = step_by(best_way(reach[crowd], costs, cost_by), steps)
    return steps


def cost_at_worst(rows, costs):
    known = [costs[part] for part in crowds_in(rows) if part in costs]
    return max(known) if len(known) == len(rows) else None


def ways_with(works, looks, crowd):
    return [(deed, parted(works, looks, led_to(works, crowd, deed))) for deed in deeds_with(works, crowd)]


def coming_from(works, looks, crowd):
    return reached_from(crowds_in(parted(works, looks, crowd)), lambda part: ways_with(works, looks, part))


def deeds_by(way, depths):
    most = cost_at_worst(way[1], depths)
    return None if most is None else most + 1


# A depth is how many deeds are needed at the worst: a crowd for which there is no plan has none.
def depths_of(works, coming):
    return costs_of(works, coming, deeds_by)


def plan_of(rows, steps):
    return tuple([(seen, steps[part]) for seen, part in rows])


def do_step(way, steps):
    return ("do", way[0], plan_of(way[1], steps))


def fewest(works, looks):
    checked(works)
    checked_looks(works, looks)
    begin = begin_of(works)
    depths = depths_of(works, coming_from(works, looks, begin))
    return cost_at_worst(parted(works, looks, begin), depths)


def a_plan(works, looks):
    checked(works)
    checked_looks(works, looks)
    rows = parted(works, looks, begin_of(works))
    coming = coming_from(works, looks, begin_of(works))
    depths = depths_of(works, coming)
    if cost_at_worst(rows, depths) is None:
        return None
    return plan_of(rows, steps_of(coming, depths, deeds_by, do_step))
