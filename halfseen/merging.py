"""Alike: the states that nothing tells apart, and works in which such states are one."""

from halfseen.works import begin_of, checked, deeds_of, goal_of, looks_of, states_of


# Kinds are a list: the number of the kind of each state. They are numbered by their first states,
# so two partings are the same just where these lists are.
def numbered(marks):
    numbers = {}
    kinds = []
    for mark in marks:
        kinds.append(numbers.setdefault(mark, len(numbers)))
    return kinds


def kinds_in(crowd, kinds):
    return tuple(sorted(set([kinds[state] for state in crowd])))


def first_mark(works, state):
    return (state in goal_of(works), tuple([look[state] for look in looks_of(works)]))


# The kind it has is in it, so that states that were told apart once stay apart.
def next_mark(works, state, kinds):
    return (kinds[state], tuple([kinds_in(leads[state], kinds) for leads in deeds_of(works)]))


def finer(works, kinds):
    return numbered([next_mark(works, state, kinds) for state in range(states_of(works))])


# Only states that differ are ever told apart, so what is left at last is the coarsest parting.
def kinds_of(works):
    kinds = numbered([first_mark(works, state) for state in range(states_of(works))])
    while finer(works, kinds) != kinds:
        kinds = finer(works, kinds)
    return kinds


def states_of_kind(kinds, kind):
    return [state for state in range(len(kinds)) if kinds[state] == kind]


def alike_states(works):
    checked(works)
    kinds = kinds_of(works)
    return [states_of_kind(kinds, kind) for kind in range(max(kinds) + 1)]


def merged_deed(leads, firsts, kinds):
    return tuple([kinds_in(leads[state], kinds) for state in firsts])


def merged_look(look, firsts):
    return tuple([look[state] for state in firsts])


def merged(works):
    checked(works)
    kinds = kinds_of(works)
    firsts = [states[0] for states in alike_states(works)]
    deeds = tuple([merged_deed(leads, firsts, kinds) for leads in deeds_of(works)])
    looks = tuple([merged_look(look, firsts) for look in looks_of(works)])
    return (len(firsts), deeds, looks, kinds_in(begin_of(works), kinds), kinds_in(goal_of(works), kinds))
