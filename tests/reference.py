"""The document's words put down once more, in a slower and plainer way, for the tests to compare with."""

import random


def parts_of(works, looks, crowd):
    seen_in = {state: tuple(works[2][look][state] for look in looks) for state in crowd}
    return [(seen, tuple(state for state in crowd if seen_in[state] == seen)) for seen in sorted(set(seen_in.values()))]


def deeds_for(works, crowd):
    return [deed for deed, leads in enumerate(works[1]) if all(leads[state] for state in crowd)]


def behind(works, crowd, deed):
    return tuple(sorted({target for state in crowd for target in works[1][deed][state]}))


def within_goal(works, crowd):
    return set(crowd) <= set(works[4])


def plan_within(works, looks, crowd, most, known):
    """Whether there is a plan for the crowd with so many deeds at the most."""
    if (crowd, most) not in known:
        known[crowd, most] = all(
            within_goal(works, part)
            or most > 0 and any(plan_within(works, looks, behind(works, part, deed), most - 1, known)
                                for deed in deeds_for(works, part))
            for seen, part in parts_of(works, looks, crowd))
    return known[crowd, most]


def slow_fewest(works, looks, crowd):
    # No plan needs more deeds than there are crowds: none needs to come to one twice.
    known = {}
    for most in range(2 ** works[0]):
        if plan_within(works, looks, crowd, most, known):
            return most
    return None


def slow_coming(works, looks):
    coming = {part for seen, part in parts_of(works, looks, works[3])}
    while True:
        more = {part for crowd in coming for deed in deeds_for(works, crowd)
                for seen, part in parts_of(works, looks, behind(works, crowd, deed))}
        if more <= coming:
            return sorted(coming)
        coming |= more


def slow_traps(works, looks):
    return [crowd for crowd in slow_coming(works, looks) if slow_fewest(works, looks, crowd) is None]


def plain_rows(row, seen):
    """Whether this is a row for what is seen, with a step of the right form."""
    if not isinstance(row, tuple) or len(row) != 2 or not isinstance(row[0], tuple) or not isinstance(row[1], tuple):
        return False
    if any(type(told) is not int for told in row[0]) or row[0] != seen:
        return False
    step = row[1]
    if len(step) not in (1, 3) or type(step[0]) is not str:
        return False
    return step[0] == {1: "done", 3: "do"}[len(step)]


def where_it_fails(works, looks, crowd, plan, ahead=()):
    """The at of what is no plan for the crowd, or None, if it is one."""
    parts = parts_of(works, looks, crowd)
    if not isinstance(plan, tuple) or len(plan) != len(parts):
        return ahead
    for (seen, part), row in zip(parts, plan):
        if not plain_rows(row, seen):
            return ahead
        here = ahead + (seen,)
        step = row[1]
        if len(step) == 1:
            if not within_goal(works, part):
                return here
        elif type(step[1]) is not int or step[1] not in deeds_for(works, part):
            return here
        else:
            deeper = where_it_fails(works, looks, behind(works, part, step[1]), step[2], here)
            if deeper is not None:
                return deeper
    return None


def deeds_at_worst(plan):
    """The most deeds that follow one another in what is known to be a plan."""
    return max(0 if len(step) == 1 else 1 + deeds_at_worst(step[2]) for seen, step in plan)


def deeds_within(plan):
    found = set()
    for seen, step in plan:
        if len(step) == 3:
            found |= {step[1]} | deeds_within(step[2])
    return found


def slow_run(works, looks, plan, state, picks):
    step = dict(plan)[tuple(works[2][look][state] for look in looks)]
    if step == ("done",):
        return [state]
    leads = works[1][step[1]][state]
    target = leads[(picks + [0])[0] % len(leads)]
    return [state, step[1]] + slow_run(works, looks, step[2], target, picks[1:])


def slow_answer(works, looks, crowd, deed):
    def badness(row):
        deeds = slow_fewest(works, looks, row[1])
        return 10 ** 9 if deeds is None else deeds
    rows = parts_of(works, looks, behind(works, crowd, deed))
    worst = max(badness(row) for row in rows)
    return min(row[0] for row in rows if badness(row) == worst)


def some_crowd(source, many, least, most):
    return tuple(sorted(source.sample(range(many), source.randint(least, min(most, many)))))


def some_works(source, many=None):
    """Works of up to four states, or of so many, by a source of chance with a fixed seed."""
    many = many or source.randint(1, 4)
    deeds = tuple(tuple(some_crowd(source, many, 0 if source.random() < 0.2 else 1, 2) for state in range(many))
                  for deed in range(source.randint(1, 3)))
    looks = tuple(tuple(source.randint(0, 2) for state in range(many)) for look in range(source.randint(0, 2)))
    return (many, deeds, looks, some_crowd(source, many, 1, many), some_crowd(source, many, 0, 2))


def choices(works):
    looks = range(len(works[2]))
    return [tuple(look for look in looks if bits >> look & 1) for bits in range(2 ** len(looks))]


def many_works(seed, count):
    """Tuples of works and of a choice of looks, all of these for each works."""
    source = random.Random(seed)
    found = []
    for number in range(count):
        works = some_works(source)
        found.extend((works, looks) for looks in choices(works))
    return found


def some_plan(source, works, looks, crowd, most):
    """A plan for the crowd, chosen by chance, with so many deeds at the worst at the most; None, if none was found."""
    rows = []
    for seen, part in parts_of(works, looks, crowd):
        if within_goal(works, part) and (most == 0 or source.random() < 0.5):
            rows.append((seen, ("done",)))
            continue
        found = None
        deeds = deeds_for(works, part) if most > 0 else []
        for deed in source.sample(deeds, len(deeds)):
            inner = some_plan(source, works, looks, behind(works, part, deed), most - 1)
            if inner is not None:
                found = ("do", deed, inner)
                break
        if found is None and within_goal(works, part):
            found = ("done",)
        if found is None:
            return None
        rows.append((seen, found))
    return tuple(rows)
