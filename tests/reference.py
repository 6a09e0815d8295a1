"""The document's words put down once more, in a slower and plainer way, for the tests to compare with."""

import itertools
import random


def parts_of(works, looks, crowd):
    seen_in = {state: tuple(works[2][look][state] for look in looks) for state in crowd}
    return [(seen, tuple(state for state in crowd if seen_in[state] == seen)) for seen in sorted(set(seen_in.values()))]


def deeds_for(works, crowd):
    return [deed for deed, leads in enumerate(works[1]) if all(leads[state] for state in crowd)]


def behind(works, crowd, deed):
    return tuple(sorted({target for state in crowd for target in works[1][deed][state]}))


def within_goal(works, crowd):
    return set(crowd) <= set(works[4])


def plan_within(works, looks, crowd, most, known):
    """Whether there is a plan for the crowd with so many deeds at the most."""
    if (crowd, most) not in known:
        known[crowd, most] = all(
            within_goal(works, part)
            or most > 0 and any(plan_within(works, looks, behind(works, part, deed), most - 1, known)
                                for deed in deeds_for(works, part))
            for seen, part in parts_of(works, looks, crowd))
    return known[crowd, most]


def slow_fewest(works, looks, crowd):
    # No plan needs more deeds than there are crowds: none needs to come to one twice.
    known = {}
    for most in range(2 ** works[0]):
        if plan_within(works, looks, crowd, most, known):
            return most
    return None


def slow_coming(works, looks):
    coming = {part for seen, part in parts_of(works, looks, works[3])}
    while True:
        more = {part for crowd in coming for deed in deeds_for(works, crowd)
                for seen, part in parts_of(works, looks, behind(works, crowd, deed))}
        if more <= coming:
            return sorted(coming)
        coming |= more


def slow_traps(works, looks):
    return [crowd for crowd in slow_coming(works, looks) if slow_fewest(works, looks, crowd) is None]


def plain_rows(row, seen):
    """Whether this is a row for what is seen, with a step of the right form."""
    if not isinstance(row, tuple) or len(row) != 2 or not isinstance(row[0], tuple) or not isinstance(row[1], tuple):
        return False
    if any(type(told) is not int for told in row[0]) or row[0] != seen:
        return False
    step = row[1]
    if len(step) not in (1, 3) or type(step[0]) is not str:
        return False
    return step[0] == {1: "done", 3: "do"}[len(step)]


def where_it_fails(works, looks, crowd, plan, ahead=()):
    """The at of what is no plan for the crowd, or None, if it is one."""
    parts = parts_of(works, looks, crowd)
    if not isinstance(plan, tuple) or len(plan) != len(parts):
        return ahead
    for (seen, part), row in zip(parts, plan):
        if not plain_rows(row, seen):
            return ahead
        here = ahead + (seen,)
        step = row[1]
        if len(step) == 1:
            if not within_goal(works, part):
                return here
        elif type(step[1]) is not int or step[1] not in deeds_for(works, part):
            return here
        else:
            deeper = where_it_fails(works, looks, behind(works, part, step[1]), step[2], here)
            if deeper is not None:
                return deeper
    return None


def deeds_at_worst(plan):
    """The most deeds that follow one another in what is known to be a plan."""
    return max(0 if len(step) == 1 else 1 + deeds_at_worst(step[2]) for seen, step in plan)


def deeds_within(plan):
    found = set()
    for seen, step in plan:
        if len(step) == 3:
            found |= {step[1]} | deeds_within(step[2])
    return found


def slow_run(works, looks, plan, state, picks):
    step = dict(plan)[tuple(works[2][look][state] for look in looks)]
    if step == ("done",):
        return [state]
    leads = works[1][step[1]][state]
    target = leads[(picks + [0])[0] % len(leads)]
    return [state, step[1]] + slow_run(works, looks, step[2], target, picks[1:])


def slow_answer(works, looks, crowd, deed):
    def badness(row):
        deeds = slow_fewest(works, looks, row[1])
        return 10 ** 9 if deeds is None else deeds
    rows = parts_of(works, looks, behind(works, crowd, deed))
    worst = max(badness(row) for row in rows)
    return min(row[0] for row in rows if badness(row) == worst)


def some_crowd(source, many, least, most):
    return tuple(sorted(source.sample(range(many), source.randint(least, min(most, many)))))


def some_works(source, many=None):
    """Works of up to four states, or of so many, by a source of chance with a fixed seed."""
    many = many or source.randint(1, 4)
    deeds = tuple(tuple(some_crowd(source, many, 0 if source.random() < 0.2 else 1, 2) for state in range(many))
                  for deed in range(source.randint(1, 3)))
    looks = tuple(tuple(source.randint(0, 2) for state in range(many)) for look in range(source.randint(0, 2)))
    return (many, deeds, looks, some_crowd(source, many, 1, many), some_crowd(source, many, 0, 2))


def large_works(seed):
    """Works of the greatest size, by a fixed seed."""
    source = random.Random(seed)
    most = 1 + seed % 3
    deeds = tuple(tuple(some_crowd(source, 8, 0 if source.random() < 0.1 else 1, most) for state in range(8))
                  for deed in range(5))
    looks = tuple(tuple(source.randint(0, 1 + look % 2) for state in range(8)) for look in range(4))
    return (8, deeds, looks, some_crowd(source, 8, 1, 8), some_crowd(source, 8, 1, 3))


def choices(works):
    looks = range(len(works[2]))
    return [tuple(look for look in looks if bits >> look & 1) for bits in range(2 ** len(looks))]


def many_works(seed, count):
    """Tuples of works and of a choice of looks, all of these for each works."""
    source = random.Random(seed)
    found = []
    for number in range(count):
        works = some_works(source)
        found.extend((works, looks) for looks in choices(works))
    return found


def some_plan(source, works, looks, crowd, most):
    """A plan for the crowd, chosen by chance, with so many deeds at the worst at the most; None, if none was found."""
    rows = []
    for seen, part in parts_of(works, looks, crowd):
        if within_goal(works, part) and (most == 0 or source.random() < 0.5):
            rows.append((seen, ("done",)))
            continue
        found = None
        deeds = deeds_for(works, part) if most > 0 else []
        for deed in source.sample(deeds, len(deeds)):
            inner = some_plan(source, works, looks, behind(works, part, deed), most - 1)
            if inner is not None:
                found = ("do", deed, inner)
                break
        if found is None and within_goal(works, part):
            found = ("done",)
        if found is None:
            return None
        rows.append((seen, found))
    return tuple(rows)


def slow_weakest(works, most):
    """The weakest choices that are enough for so many deeds, or for any number, if most is None."""
    enough = []
    for looks in choices(works):
        deeds = slow_fewest(works, looks, works[3])
        if deeds is not None and (most is None or deeds <= most):
            enough.append(looks)
    weakest = [looks for looks in enough if not any(set(other) < set(looks) for other in enough)]
    return sorted(sorted(weakest), key=len)


def slow_luck(works, looks):
    """By the crowds that may have come behind no deed, behind one, behind two, and so on."""
    now = {part for seen, part in parts_of(works, looks, works[3])}
    for deeds in range(2 ** works[0]):
        if any(within_goal(works, crowd) for crowd in now):
            return deeds
        now = {part for crowd in now for deed in deeds_for(works, crowd)
               for seen, part in parts_of(works, looks, behind(works, crowd, deed))}
    return None


def come_by(works, looks, table):
    """The crowds that come by a dict of crowds and deeds; None, where one of them is not as [12] tells."""
    come = set()
    waiting = [part for seen, part in parts_of(works, looks, works[3])]
    while waiting:
        crowd = waiting.pop()
        if crowd in come:
            continue
        come.add(crowd)
        deed = table.get(crowd)
        if deed is None and not within_goal(works, crowd):
            return None
        if deed is not None:
            if deed not in deeds_for(works, crowd):
                return None
            waiting.extend(part for seen, part in parts_of(works, looks, behind(works, crowd, deed)))
    return come


def leads_there(works, looks, table, crowd):
    """Whether the deeds of a dict may lead from the crowd, by some parts, to where one is there."""
    come, now = set(), {crowd}
    while not now <= come:
        if any(within_goal(works, crowd) for crowd in now):
            return True
        come |= now
        now = {part for crowd in now if table[crowd] is not None
               for seen, part in parts_of(works, looks, behind(works, crowd, table[crowd]))}
    return False


def is_patient(works, looks, table):
    """Whether patience helps by a dict, which may have more crowds than come by it."""
    come = come_by(works, looks, table)
    return come is not None and all(leads_there(works, looks, table, crowd) for crowd in come)


def slow_patience(works, looks):
    """Whether patience helps, by all tables there are: for works of few states alone."""
    coming = slow_coming(works, looks)
    deeds = [[None] if within_goal(works, crowd) else deeds_for(works, crowd) or [None] for crowd in coming]
    return any(is_patient(works, looks, dict(zip(coming, row))) for row in itertools.product(*deeds))


def patience_is_vain(works, looks):
    """Whether patience does not help, by leaving out what can't be kept to: for works of any size."""
    rows = {crowd: [[part for seen, part in parts_of(works, looks, behind(works, crowd, deed))]
                    for deed in deeds_for(works, crowd)] for crowd in slow_coming(works, looks)}
    safe = set(rows)
    while True:
        helped = {crowd for crowd in safe if within_goal(works, crowd)}
        while True:
            more = {crowd for crowd in safe for row in rows[crowd] if set(row) <= safe and set(row) & helped}
            if more <= helped:
                break
            helped |= more
        if helped == safe:
            return any(part not in safe for seen, part in parts_of(works, looks, works[3]))
        safe = helped


def bought_within(works, prices, crowd, most, known):
    """Whether there is a bought plan for the crowd at such a price at the most."""
    if (crowd, most) not in known:
        steps = [(prices[0][deed], [behind(works, crowd, deed)]) for deed in deeds_for(works, crowd)]
        for look, price in enumerate(prices[1]):
            parts = [part for seen, part in parts_of(works, (look,), crowd)]
            if len(parts) > 1:
                steps.append((price, parts))
        known[crowd, most] = within_goal(works, crowd) or any(
            price <= most and all(bought_within(works, prices, part, most - price, known) for part in parts)
            for price, parts in steps)
    return known[crowd, most]


def slow_cheapest(works, prices):
    # No plan at the least price comes to a crowd twice on a way, so it has fewer steps than there are crowds.
    known = {}
    for most in range(2 ** works[0] * max(prices[0] + prices[1])):
        if bought_within(works, prices, works[3], most, known):
            return most
    return None


def price_at_worst(works, prices, crowd, plan):
    """What a bought plan for the crowd comes to at the worst; None, if it is none."""
    if type(plan) is not tuple or not plan or type(plan[0]) is not str:
        return None
    if plan == ("done",):
        return 0 if within_goal(works, crowd) else None
    if len(plan) != 3 or type(plan[1]) is not int or plan[0] not in ("do", "look"):
        return None
    if plan[0] == "do":
        if plan[1] not in deeds_for(works, crowd):
            return None
        worst = price_at_worst(works, prices, behind(works, crowd, plan[1]), plan[2])
        return None if worst is None else prices[0][plan[1]] + worst
    if plan[1] not in range(len(works[2])) or type(plan[2]) is not tuple:
        return None
    parts = parts_of(works, (plan[1],), crowd)
    if len(parts) < 2 or any(type(row) is not tuple or len(row) != 2 or type(row[0]) is not int for row in plan[2]):
        return None
    if [(row[0],) for row in plan[2]] != [seen for seen, part in parts]:
        return None
    inner = [price_at_worst(works, prices, part, row[1]) for (seen, part), row in zip(parts, plan[2])]
    return None if None in inner else prices[1][plan[1]] + max(inner)


def partings(states):
    """All partings of a rising list of states, each a list of rising lists."""
    if not states:
        return [[]]
    found = []
    for rest in partings(states[1:]):
        found.append([states[:1]] + rest)
        for place, alike in enumerate(rest):
            found.append(rest[:place] + [states[:1] + alike] + rest[place + 1:])
    return found


def may_be_alike(works, parting):
    """Whether the states that a parting leaves together are as [15] asks for."""
    kind = {state: number for number, alike in enumerate(parting) for state in alike}
    marks = [(state in works[4], [look[state] for look in works[2]],
              [{kind[target] for target in leads[state]} for leads in works[1]]) for state in range(works[0])]
    return all(marks[first] == marks[second] for alike in parting for first in alike for second in alike)


def slow_alike(works):
    """The coarsest of all partings there are: for works of few states alone."""
    return sorted(min([parting for parting in partings(list(range(works[0]))) if may_be_alike(works, parting)], key=len))


def some_prices(source, works, most):
    return (tuple(source.randint(1, most) for deed in works[1]), tuple(source.randint(1, most) for look in works[2]))


def renumbered(works, numbers):
    """The same works, the states having other numbers: for each old one, in their order, the new one."""
    many, deeds, looks, begin, goal = works

    def crowd_of(crowd):
        return tuple(sorted(numbers[state] for state in crowd))
    old = [numbers.index(number) for number in range(many)]
    return (
        many,
        tuple(tuple(crowd_of(leads[state]) for state in old) for leads in deeds),
        tuple(tuple(look[state] for state in old) for look in looks),
        crowd_of(begin),
        crowd_of(goal),
    )


def blown_up(source, works, many):
    """Works of so many states, each of which is like one of the others: deeds lead to some of those that are alike."""
    originals = list(range(works[0])) + [source.randrange(works[0]) for more in range(many - works[0])]
    source.shuffle(originals)

    def some_of(crowd):
        found = []
        for state in crowd:
            copies = [number for number in range(many) if originals[number] == state]
            found.extend(source.sample(copies, source.randint(1, len(copies))))
        return tuple(sorted(found))
    return (
        many,
        tuple(tuple(some_of(leads[state]) for state in originals) for leads in works[1]),
        tuple(tuple(look[state] for state in originals) for look in works[2]),
        some_of(works[3]),
        tuple(number for number in range(many) if originals[number] in works[4]),
    )
