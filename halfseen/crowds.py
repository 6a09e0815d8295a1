"""Crowds: the deeds that can be done with them, where these lead, and how looks part them."""

from halfseen.errors import BadDeed
from halfseen.works import checked, checked_crowd, checked_looks, deeds_of, goal_of, is_number, seen_in


# The functions that check nothing are for callers that have checked what they were handed.


def can_be_done(works, crowd, deed):
    leads = deeds_of(works)[deed]
    return all([len(leads[state]) > 0 for state in crowd])


def deeds_with(works, crowd):
    return [deed for deed in range(len(deeds_of(works))) if can_be_done(works, crowd, deed)]


def led_to(works, crowd, deed):
    leads = deeds_of(works)[deed]
    found = {}
    for state in crowd:
        for target in leads[state]:
            found[target] = True
    return tuple(sorted(found))


def parted(works, looks, crowd):
    found = {}
    for state in crowd:
        found.setdefault(seen_in(works, looks, state), []).append(state)
    return [(seen, tuple(found[seen])) for seen in sorted(found)]


def is_there(works, crowd):
    return all([state in goal_of(works) for state in crowd])


def checked_deed(works, crowd, deed):
    if not is_number(deed, 0, len(deeds_of(works)) - 1):
        raise BadDeed("this is no deed's number")
    if not can_be_done(works, crowd, deed):
        raise BadDeed("this deed can not be done with this crowd")
    return deed


def doable(works, crowd):
    checked(works)
    checked_crowd(works, crowd)
    return deeds_with(works, crowd)


def after(works, crowd, deed):
    checked(works)
    checked_crowd(works, crowd)
    checked_deed(works, crowd, deed)
    return led_to(works, crowd, deed)


def parts(works, looks, crowd):
    checked(works)
    checked_looks(works, looks)
    checked_crowd(works, crowd)
    return parted(works, looks, crowd)
