"""Tales as texts: a line for each thing and each event, and the way back."""

from talejudge.errors import NoTale
from talejudge.tales import ANSWER_WORDS, make_tale

FIGURES = "0123456789"

# No number of a tale is written with more figures. Python refuses to read texts of some thousand figures.
MOST_FIGURES = 13


def show_tale(tale):
    rows = [["thing", thing[0], thing[1]] for thing in tale[0]] + [event_words(event) for event in tale[1]]
    return "".join([" ".join(words) + "\n" for words in rows])


def event_words(event):
    if event[0] == "end":
        return [str(event[1]), "end", str(event[2])]
    return [str(event[1]), "begin", event[2], event[3]] + worth_words(event[4])


def worth_words(worth):
    if worth is None:
        return []
    if isinstance(worth, tuple):
        return [str(part) for part in worth]
    return [str(worth)]


def read_tale(text):
    if not isinstance(text, str):
        raise NoTale("this is no text")
    rows = [line.split(" ") for line in text.split("\n")[:-1]]
    things = [tuple(words[1:]) for words in rows if words[0] == "thing"]
    events = [read_event(words) for words in rows if words[0] != "thing"]
    tale = make_tale(things, events)
    # A tale is written in one way alone: so numbers, the lines' order and the last line feed are all looked at here.
    if show_tale(tale) != text:
        raise NoTale("a tale is not written so")
    return tale


def read_event(words):
    if len(words) == 3 and words[1] == "end":
        return ("end", read_number(words[0]), read_answer(words[2]))
    if len(words) >= 4 and words[1] == "begin":
        return ("begin", read_number(words[0]), words[2], words[3], read_worth(words[4:]))
    raise NoTale("this is no line of a tale")


def read_answer(word):
    return word if word in ANSWER_WORDS else read_number(word)


def read_worth(words):
    if len(words) == 0:
        return None
    if len(words) == 1:
        return read_number(words[0])
    return tuple([read_number(word) for word in words])


def read_number(word):
    figures = word[1:] if word.startswith("-") else word
    if not 1 <= len(figures) <= MOST_FIGURES or not all([sign in FIGURES for sign in figures]):
        raise NoTale("this is no number of a tale")
    return int(word)
