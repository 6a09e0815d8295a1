"""Plans that are handed in: the refusal of what are none, their deeds, and runs of them."""

from halfseen.crowds import can_be_done, is_there, led_to, parted
from halfseen.errors import BadPlan, BadRun
from halfseen.finding import fewest
from halfseen.works import begin_of, checked, checked_looks, deeds_of, is_number, is_row, seen_in, states_of

MOST_PICK = 999


# A row of a plan, the part that it must be for with what is seen there, and the place whose
# deed leads here, None at the begin. Through it the trail is known without a copy at each row.
class Place:
    def __init__(self, ahead, seen, part, row):
        self.ahead = ahead
        self.seen = seen
        self.part = part
        self.row = row
        self.depth = 1 if ahead is None else ahead.depth + 1


def seen_up_to(place):
    backward = []
    current = place
    while current is not None:
        backward.append(current.seen)
        current = current.ahead
    return tuple(reversed(backward))


def is_word(thing, word):
    return isinstance(thing, str) and thing == word


# A plain == would take True for 1, and a thing of any kind may fail when it is compared.
def is_sight(thing, seen):
    if not is_row(thing, len(seen), len(seen)):
        return False
    return all([is_number(told, number, number) for told, number in zip(thing, seen)])


def is_done(step):
    return is_row(step, 1, 1) and is_word(step[0], "done")


def is_do(step):
    return is_row(step, 3, 3) and is_word(step[0], "do")


def is_row_for(row, seen):
    return is_row(row, 2, 2) and is_sight(row[0], seen) and (is_done(row[1]) or is_do(row[1]))


def may_be_taken(works, part, step):
    if is_done(step):
        return is_there(works, part)
    return is_number(step[1], 0, len(deeds_of(works)) - 1) and can_be_done(works, part, step[1])


def places_in(works, looks, crowd, plan, ahead):
    rows = parted(works, looks, crowd)
    if not is_row(plan, len(rows), len(rows)):
        raise BadPlan(seen_up_to(ahead))
    return [Place(ahead, told[0], told[1], row) for told, row in zip(rows, plan)]


def checked_step(works, place):
    if not is_row_for(place.row, place.seen):
        raise BadPlan(seen_up_to(place.ahead))
    step = place.row[1]
    if not may_be_taken(works, place.part, step):
        raise BadPlan(seen_up_to(place))
    return step


# Tells each deed of the plan with how many follow one another up to it, at the most. The rows
# that are left wait in a list, the next one last: a recursion could not follow a very deep plan.
def depths_in_plan(works, looks, plan):
    depths = {}
    waiting = list(reversed(places_in(works, looks, begin_of(works), plan, None)))
    while len(waiting) > 0:
        place = waiting.pop()
        step = checked_step(works, place)
        if is_do(step):
            deed = step[1]
            depths[deed] = max(depths.get(deed, 0), place.depth)
            behind = places_in(works, looks, led_to(works, place.part, deed), step[2], place)
            waiting.extend(list(reversed(behind)))
    return depths


def deepest(works, looks, plan):
    checked(works)
    checked_looks(works, looks)
    depths = depths_in_plan(works, looks, plan)
    return max([depths[deed] for deed in depths], default=0)


def excess(works, looks, plan):
    return deepest(works, looks, plan) - fewest(works, looks)


def deeds_in(works, looks, plan):
    checked(works)
    checked_looks(works, looks)
    return sorted(depths_in_plan(works, looks, plan))


def check_run(works, state, picks):
    if not is_number(state, 0, states_of(works) - 1) or state not in begin_of(works):
        raise BadRun("a run begins in a state of begin")
    if not isinstance(picks, list) or not all([is_number(pick, 0, MOST_PICK) for pick in picks]):
        raise BadRun("picks are a list of whole numbers from 0 to 999")


def step_for(plan, seen):
    return [row[1] for row in plan if row[0] == seen][0]


def run(works, looks, plan, state, picks):
    checked(works)
    checked_looks(works, looks)
    # Only the refusal of what is no plan is asked for here.
    depths_in_plan(works, looks, plan)
    check_run(works, state, picks)
    told = [state]
    step = step_for(plan, seen_in(works, looks, state))
    while is_do(step):
        leads = deeds_of(works)[step[1]][told[-1]]
        # Each deed ahead has put two things behind the first state.
        turn = len(told) // 2
        pick = picks[turn] if turn < len(picks) else 0
        told.extend([step[1], leads[pick % len(leads)]])
        step = step_for(step[2], seen_in(works, looks, told[-1]))
    return told
