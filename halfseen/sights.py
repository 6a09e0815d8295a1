"""Looks: which are needless, which choices of them are enough, and what one of them is worth."""

from halfseen.errors import BadLooks, BadNumber
from halfseen.finding import fewest
from halfseen.works import all_looks, checked, is_number, looks_of

MOST_NUMBER = 999


def all_but(works, look):
    return tuple([other for other in all_looks(works) if other != look])


# Fewer looks first, so each choice stands behind all that are within it.
def all_choices(works):
    found = [()]
    for look in all_looks(works):
        found = found + [choice + (look,) for choice in found]
    return sorted(found, key=lambda choice: (len(choice), choice))


def is_within(fewer, more):
    return all([look in more for look in fewer])


def is_enough(works, choice, most):
    deeds = fewest(works, choice)
    return deeds is not None and deeds <= most


def weakest_for(works, most):
    told = []
    for choice in all_choices(works):
        if not any([is_within(weaker, choice) for weaker in told]) and is_enough(works, choice, most):
            told.append(choice)
    return told


def needless(works):
    checked(works)
    with_all = fewest(works, all_looks(works))
    return [look for look in all_looks(works) if fewest(works, all_but(works, look)) == with_all]


# A plan with the fewest deeds never comes to a crowd twice on a way, and eight states make 255
# crowds: so this number shuts no plan out.
def weakest(works):
    checked(works)
    return weakest_for(works, MOST_NUMBER)


def weakest_within(works, most):
    checked(works)
    if not is_number(most, 0, MOST_NUMBER):
        raise BadNumber("this is no whole number from 0 to 999")
    return weakest_for(works, most)


def worth_of(works, look):
    checked(works)
    if not is_number(look, 0, len(looks_of(works)) - 1):
        raise BadLooks("this is no look's number")
    with_all = fewest(works, all_looks(works))
    if with_all is None:
        return 0
    without = fewest(works, all_but(works, look))
    return None if without is None else without - with_all
