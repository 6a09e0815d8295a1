"""Works, choices of looks and crowds: what they are, and the refusal of what are none."""

from halfseen.errors import BadCrowd, BadLooks, BadWorks

MOST_STATES = 8
MOST_DEEDS = 5
MOST_LOOKS = 4
MOST_SEEN = 9


def is_number(thing, least, most):
    # Python counts True and False among the whole numbers; the document does not.
    if isinstance(thing, bool) or not isinstance(thing, int):
        return False
    return least <= thing <= most


def is_row(thing, least, most):
    return isinstance(thing, tuple) and least <= len(thing) <= most


def is_rising(thing, many):
    # Crowds and choices of looks have one form: numbers below a bound, rising, none twice.
    if not isinstance(thing, tuple):
        return False
    least = 0
    for number in thing:
        if not is_number(number, least, many - 1):
            return False
        least = number + 1
    return True


def is_deed(thing, many):
    return is_row(thing, many, many) and all([is_rising(crowd, many) for crowd in thing])


def is_look(thing, many):
    return is_row(thing, many, many) and all([is_number(told, 0, MOST_SEEN) for told in thing])


def are_deeds(thing, many):
    return is_row(thing, 1, MOST_DEEDS) and all([is_deed(deed, many) for deed in thing])


def are_looks(thing, many):
    return is_row(thing, 0, MOST_LOOKS) and all([is_look(look, many) for look in thing])


def is_crowd(thing, many):
    # Only where a crowd may be empty is is_rising enough.
    return is_rising(thing, many) and len(thing) > 0


def are_works(thing):
    if not is_row(thing, 5, 5) or not is_number(thing[0], 1, MOST_STATES):
        return False
    many = thing[0]
    if not are_deeds(thing[1], many) or not are_looks(thing[2], many):
        return False
    return is_crowd(thing[3], many) and is_rising(thing[4], many)


def states_of(works):
    return works[0]


def deeds_of(works):
    return works[1]


def looks_of(works):
    return works[2]


def begin_of(works):
    return works[3]


def goal_of(works):
    return works[4]


def checked(works):
    if not are_works(works):
        raise BadWorks("these are no works")
    return works


def checked_looks(works, looks):
    if not is_rising(looks, len(looks_of(works))):
        raise BadLooks("this is no choice of looks of these works")
    return looks


def checked_crowd(works, crowd):
    if not is_crowd(crowd, states_of(works)):
        raise BadCrowd("this is no crowd of one state at least of these works")
    return crowd


def all_looks(works):
    return tuple(range(len(looks_of(checked(works)))))


def seen_in(works, looks, state):
    return tuple([looks_of(works)[look][state] for look in looks])
