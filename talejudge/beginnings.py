"""Beginnings of a tale: the first bad one, and what a hand may yet hear at the tale's end."""

from talejudge.basics import is_whole
from talejudge.errors import NoHand, NoTale
from talejudge.judge import judged
from talejudge.places import Board, all_places
from talejudge.tales import deeds


def beginning(tale, many):
    if not is_whole(many) or not 0 <= many <= len(tale[1]):
        raise NoTale("the tale has no beginning of so many events")
    return (tale[0], tale[1][:many])


def is_bad(tale, many):
    return judged(beginning(tale, many), "strict") is None


def bad_beginning(tale):
    bad = len(tale[1])
    if not is_bad(tale, bad):
        return None
    # All beginnings behind a bad one are bad, too: so the way to the first one may be halved again and again.
    good = 0
    while bad - good > 1:
        middle = (good + bad) // 2
        if is_bad(tale, middle):
            bad = middle
        else:
            good = middle
    return bad


def may_answer(tale, hand):
    heard = answers_in_orders(tale, open_deed(tale, hand))
    numbers = [answer for answer in heard if is_whole(answer)]
    texts = [answer for answer in heard if not is_whole(answer)]
    return sorted(numbers) + sorted(texts)


# Asked of anything as a hand.
def open_deed(tale, hand):
    if is_whole(hand):
        for number, deed in enumerate(deeds(tale)):
            if deed[0] == hand and deed[6] is None:
                return number
    raise NoHand("this is no hand with an open deed")


# An end behind the tale puts its deed ahead of no other: so the answers that may be heard are those that the deed has
# in some order that explains the tale, that is at a step from which a full place can be come to.
def answers_in_orders(tale, number):
    board = Board(tale, "strict")
    hopeful = {}
    heard = {}
    # A next place stands behind its own one in the list: turned round, it is looked at first.
    for place in reversed(all_places(tale, "strict")):
        steps = [step for step in board.steps_from(place) if step[2] in hopeful]
        if len(steps) > 0 or board.ends_at(place):
            hopeful[place] = True
        for step in steps:
            if step[0] == number:
                heard[step[1]] = True
    return heard
