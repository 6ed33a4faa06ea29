"""Things and deeds: the five kinds of things, their first states, and what each deed does to a state."""

from talejudge.basics import are_whole, is_rising, is_tuple_of, is_whole, is_worth
from talejudge.errors import NoDeed

FIRST_STATES = {"register": 0, "counter": 0, "queue": (), "set": (), "cell": 0}

# A verb has as many worths on each kind that knows it, so the kind is not asked for here.
WORTHS_OF_VERBS = {"read": 0, "take": 0, "write": 1, "add": 1, "put": 1, "cut": 1, "has": 1, "swap": 2}


def read_state(state, worth):
    return (state, state)


def write_state(state, worth):
    return (worth, "ok")


def add_to_number(state, worth):
    return (state + worth, state)


def put_behind(state, worth):
    return (state + (worth,), "ok")


def take_first(state, worth):
    if len(state) == 0:
        return (state, "none")
    return (state[1:], state[0])


def put_into_set(state, worth):
    if worth in state:
        return (state, 0)
    return (tuple(sorted(state + (worth,))), 1)


def cut_from_set(state, worth):
    if worth not in state:
        return (state, 0)
    return (tuple([held for held in state if held != worth]), 1)


def has_in_set(state, worth):
    return (state, 1 if worth in state else 0)


def swap_state(state, worth):
    if state == worth[0]:
        return (worth[1], 1)
    return (state, 0)


DOERS = {
    ("register", "read"): read_state,
    ("register", "write"): write_state,
    ("counter", "read"): read_state,
    ("counter", "add"): add_to_number,
    ("queue", "put"): put_behind,
    ("queue", "take"): take_first,
    ("set", "put"): put_into_set,
    ("set", "cut"): cut_from_set,
    ("set", "has"): has_in_set,
    ("cell", "read"): read_state,
    ("cell", "write"): write_state,
    ("cell", "swap"): swap_state,
}


def is_kind(kind):
    return isinstance(kind, str) and kind in FIRST_STATES


def first_state(kind):
    if not is_kind(kind):
        raise NoDeed("this is no kind of things")
    return FIRST_STATES[kind]


# Asked of anything as a state, but of kinds alone. The numbers in a state may go beyond worths.
def is_state(kind, state):
    if kind == "queue":
        return are_whole(state)
    if kind == "set":
        return is_rising(state)
    return is_whole(state)


def is_deed(kind, verb, worth):
    if not is_kind(kind) or not isinstance(verb, str) or (kind, verb) not in DOERS:
        return False
    many = WORTHS_OF_VERBS[verb]
    if many == 0:
        return worth is None
    if many == 1:
        return is_worth(worth)
    return is_tuple_of(worth, many) and all([is_worth(part) for part in worth])


def do(kind, state, verb, worth):
    if not is_deed(kind, verb, worth):
        raise NoDeed("this is no deed of such a thing")
    doer = DOERS[(kind, verb)]
    return doer(state, worth)
