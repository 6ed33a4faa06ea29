"""The desk: keeps one tale, to which lines are put, and answers questions on it, all by rows of words."""

from talejudge.beginnings import bad_beginning, may_answer
from talejudge.errors import NoRow, NoTale
from talejudge.judge import judged
from talejudge.parts import part
from talejudge.places import all_places
from talejudge.talenotes import FIGURES, event_words, read_event
from talejudge.tales import make_tale
from talejudge.zones import collision

EMPTY_TALE = ((), ())
MOST_FIGURES_OF_HANDS = 3


def is_number_word(word):
    return len(word) > 0 and all([sign in FIGURES for sign in word])


def with_line(tale, row):
    words = row.split(" ")
    if words[0] == "thing":
        return make_tale(list(tale[0]) + [tuple(words[1:])], list(tale[1]))
    event = read_event(words)
    # A number can be read that no tale is written with, as one with a nought ahead.
    if " ".join(event_words(event)) != row:
        raise NoTale("an event is not written so")
    return make_tale(list(tale[0]), list(tale[1]) + [event])


def tell_judged(tale, strictness):
    order = judged(tale, strictness)
    if order is None:
        # All places are the stuck paper of a tale without an order.
        many = len(all_places(tale, strictness))
        return f"stuck {many}"
    return " ".join(["order"] + [f"{number}:{answer}" for number, answer in order])


def tell_part(tale, name):
    return tell_judged(part(tale, name), "strict")


def tell_answers(tale, word):
    if not is_number_word(word) or len(word) > MOST_FIGURES_OF_HANDS or word != str(int(word)):
        raise NoRow("a hand is not told so")
    answers = may_answer(tale, int(word))
    if len(answers) == 0:
        return "nothing"
    return " ".join([str(answer) for answer in answers])


def tell_bad(tale):
    bad = bad_beginning(tale)
    return "none" if bad is None else str(bad)


def tell_collision(tale):
    paper = collision(tale)
    return "none" if paper is None else " ".join([str(value) for value in paper])


TELLERS = {"bad": tell_bad, "zones": tell_collision}
TELLERS_BY_WORD = {"judge": tell_judged, "may": tell_answers, "part": tell_part}


def tell(tale, words):
    if len(words) == 1 and words[0] in TELLERS:
        teller = TELLERS[words[0]]
        return teller(tale)
    if len(words) == 2 and words[0] in TELLERS_BY_WORD and len(words[1]) > 0:
        teller = TELLERS_BY_WORD[words[0]]
        return teller(tale, words[1])
    raise NoRow("this is no row of the desk")


class Desk:
    """Keeps one tale; what is refused is refused ahead of any change of it."""

    def __init__(self):
        self.tale = EMPTY_TALE

    def say(self, row):
        if not isinstance(row, str):
            raise NoRow("this is no text")
        words = row.split(" ")
        if words[0] == "thing" or is_number_word(words[0]):
            self.tale = with_line(self.tale, row)
            return "ok"
        if words == ["clear"]:
            self.tale = EMPTY_TALE
            return "ok"
        return tell(self.tale, words)
