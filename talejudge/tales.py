"""Tales: which things there are, and what each hand began and heard, in the order of the events."""

from talejudge.basics import is_name, is_tuple_of, is_whole, is_within
from talejudge.errors import NoTale
from talejudge.store import is_deed, is_kind

MOST_THINGS = 6
MOST_BEGINS = 24
LAST_HAND = 5
GREATEST_ANSWER = 1000000000000
ANSWER_WORDS = ("ok", "none")


def make_tale(things, events):
    own_things = make_things(things)
    return (own_things, make_events(events, dict(own_things)))


def make_things(things):
    if not isinstance(things, list) or not all([is_thing(thing) for thing in things]):
        raise NoTale("something else stands among the things")
    if len(things) > MOST_THINGS:
        raise NoTale("there are too many things")
    if len(set([thing[0] for thing in things])) < len(things):
        raise NoTale("two things have one name")
    return tuple(sorted(things))


def is_thing(thing):
    return is_tuple_of(thing, 2) and is_name(thing[0]) and is_kind(thing[1])


def make_events(events, kinds):
    if not isinstance(events, list) or not all([is_begin(event, kinds) or is_end(event) for event in events]):
        raise NoTale("something else stands among the events")
    if len([event for event in events if event[0] == "begin"]) > MOST_BEGINS:
        raise NoTale("there are too many deeds")
    if not go_by_turns(events):
        raise NoTale("begins and ends of a hand do not go by turns")
    return tuple(events)


def is_begin(event, kinds):
    if not is_event(event, "begin", 5) or not is_name(event[2]) or event[2] not in kinds:
        return False
    return is_deed(kinds[event[2]], event[3], event[4])


def is_end(event):
    return is_event(event, "end", 3) and is_answer(event[2])


def is_event(event, word, many):
    return is_tuple_of(event, many) and isinstance(event[0], str) and event[0] == word and is_hand(event[1])


def is_hand(hand):
    return is_whole(hand) and 0 <= hand <= LAST_HAND


def is_answer(answer):
    if isinstance(answer, str):
        return answer in ANSWER_WORDS
    return is_within(answer, GREATEST_ANSWER)


def go_by_turns(events):
    busy = {}
    for event in events:
        begins = event[0] == "begin"
        if busy.get(event[1], False) == begins:
            return False
        busy[event[1]] = begins
    return True


def deeds(tale):
    told = []
    numbers = {}
    for place, event in enumerate(tale[1]):
        if event[0] == "begin":
            numbers[event[1]] = len(told)
            told.append(event[1:] + (None, place, None))
        else:
            number = numbers[event[1]]
            begun = told[number]
            told[number] = begun[:4] + (event[2], begun[5], place)
    return told
