import itertools
import unittest

from strange import no_numbers, no_texts
from talejudge.errors import NoDeed
from talejudge.store import do, first_state, is_deed

TOP = 10 ** 9
FIRST = {"register": 0, "counter": 0, "queue": (), "set": (), "cell": 0}
VERBS = {
    "register": {"write": 1, "read": 0},
    "counter": {"add": 1, "read": 0},
    "queue": {"put": 1, "take": 0},
    "set": {"put": 1, "cut": 1, "has": 1},
    "cell": {"write": 1, "swap": 2, "read": 0},
}
ALL_VERBS = ["write", "read", "add", "put", "take", "cut", "has", "swap"]
GOOD = {0: None, 1: 5, 2: (5, 6)}
NO_KINDS = ["", "Register", "registers", "register ", " register", "read", "none", "stack", "SET", "cell\n"]


class FirstStateTest(unittest.TestCase):
    def test_first_states(self):
        for kind, state in FIRST.items():
            with self.subTest(kind):
                self.assertEqual(repr(first_state(kind)), repr(state))

    def test_what_is_no_kind_is_refused(self):
        for kind in NO_KINDS + no_texts() + no_numbers():
            with self.subTest(kind=kind):
                with self.assertRaises(NoDeed):
                    first_state(kind)


class IsDeedTest(unittest.TestCase):
    def told(self, expected, kind, verb, worth):
        with self.subTest(kind=kind, verb=verb, worth=worth):
            self.assertIs(is_deed(kind, verb, worth), expected)
            if not expected:
                state = FIRST[kind] if isinstance(kind, str) and kind in FIRST else 0
                with self.assertRaises(NoDeed):
                    do(kind, state, verb, worth)

    def test_each_kind_has_its_verbs_alone(self):
        for kind in FIRST:
            for verb in ALL_VERBS:
                if verb in VERBS[kind]:
                    self.told(True, kind, verb, GOOD[VERBS[kind][verb]])
                else:
                    for worth in GOOD.values():
                        self.told(False, kind, verb, worth)

    def test_each_verb_has_its_worths_alone(self):
        for kind in FIRST:
            for verb, many in VERBS[kind].items():
                for other, worth in GOOD.items():
                    self.told(many == other, kind, verb, worth)

    def test_a_verb_without_worth_has_none_of_any_sort(self):
        for kind, verb in [("register", "read"), ("counter", "read"), ("queue", "take"), ("cell", "read")]:
            for worth in no_numbers() + [0, 1, -1, (0, 0), (None,), (None, None)]:
                self.told(False, kind, verb, worth)

    def test_the_bounds_of_worths(self):
        for kind in FIRST:
            for verb, many in VERBS[kind].items():
                if many == 1:
                    for worth in [-TOP, 1 - TOP, -1, 0, 1, TOP - 1, TOP]:
                        self.told(True, kind, verb, worth)
                    for worth in [-TOP - 1, TOP + 1, 10 ** 12, -10 ** 12, 10 ** 400, -10 ** 400]:
                        self.told(False, kind, verb, worth)

    def test_the_bounds_of_both_worths_of_a_swap(self):
        for worth in [(-TOP, TOP), (TOP, -TOP), (0, 0), (TOP, TOP), (-TOP, -TOP), (3, 3)]:
            self.told(True, "cell", "swap", worth)
        for worth in [-TOP - 1, TOP + 1, 10 ** 400]:
            self.told(False, "cell", "swap", (worth, 0))
            self.told(False, "cell", "swap", (0, worth))

    def test_what_is_no_worth(self):
        for kind in FIRST:
            for verb, many in VERBS[kind].items():
                if many == 1:
                    for worth in no_numbers() + [None, (None,), (0, 0)]:
                        self.told(False, kind, verb, worth)

    def test_what_is_no_pair_of_worths(self):
        for worth in no_numbers() + [None, 0, (), (1,), (1, 2, 3), [1, 2], "12", {1: 2, 2: 1}]:
            self.told(False, "cell", "swap", worth)
        for part in no_numbers() + [None, (1, 2)]:
            self.told(False, "cell", "swap", (part, 1))
            self.told(False, "cell", "swap", (1, part))

    def test_what_is_no_verb(self):
        for kind in FIRST:
            for verb in no_texts() + ["", "Read", "read ", " write", "reads", "register", "begin", "ok"]:
                for worth in GOOD.values():
                    self.told(False, kind, verb, worth)

    def test_what_is_no_kind(self):
        for kind in NO_KINDS + no_texts() + no_numbers():
            for verb, worth in [("read", None), ("write", 1), ("put", 1), ("swap", (1, 2)), (None, None), ([], [])]:
                self.told(False, kind, verb, worth)


class DoTest(unittest.TestCase):
    def told(self, kind, state, verb, worth, newer, answer):
        with self.subTest(kind=kind, state=state, verb=verb, worth=worth):
            self.assertEqual(repr(do(kind, state, verb, worth)), repr((newer, answer)))

    def test_register(self):
        self.told("register", 0, "read", None, 0, 0)
        self.told("register", 0, "write", 7, 7, "ok")
        self.told("register", 7, "read", None, 7, 7)
        self.told("register", 7, "write", -3, -3, "ok")
        self.told("register", 7, "write", 7, 7, "ok")
        self.told("register", 7, "write", 0, 0, "ok")
        self.told("register", -TOP, "write", TOP, TOP, "ok")
        self.told("register", TOP, "write", -TOP, -TOP, "ok")

    def test_counter(self):
        self.told("counter", 0, "read", None, 0, 0)
        self.told("counter", 0, "add", 4, 4, 0)
        self.told("counter", 4, "add", 4, 8, 4)
        self.told("counter", 4, "add", -9, -5, 4)
        self.told("counter", -5, "add", 0, -5, -5)
        self.told("counter", -5, "read", None, -5, -5)

    def test_counter_goes_beyond_worths(self):
        self.told("counter", TOP, "add", TOP, 2 * TOP, TOP)
        self.told("counter", 2 * TOP, "add", 1, 2 * TOP + 1, 2 * TOP)
        self.told("counter", 24 * TOP, "read", None, 24 * TOP, 24 * TOP)
        self.told("counter", -TOP, "add", -TOP, -2 * TOP, -TOP)
        self.told("counter", -2 * TOP, "read", None, -2 * TOP, -2 * TOP)

    def test_queue(self):
        self.told("queue", (), "take", None, (), "none")
        self.told("queue", (), "put", 5, (5,), "ok")
        self.told("queue", (5,), "put", 3, (5, 3), "ok")
        self.told("queue", (5, 3), "put", 5, (5, 3, 5), "ok")
        self.told("queue", (5, 3, 5), "take", None, (3, 5), 5)
        self.told("queue", (3, 5), "take", None, (5,), 3)
        self.told("queue", (5,), "take", None, (), 5)
        self.told("queue", (0,), "take", None, (), 0)
        self.told("queue", (0, 0), "put", -TOP, (0, 0, -TOP), "ok")
        self.told("queue", (), "put", TOP, (TOP,), "ok")

    def test_set(self):
        self.told("set", (), "put", 5, (5,), 1)
        self.told("set", (5,), "put", 5, (5,), 0)
        self.told("set", (5,), "put", 3, (3, 5), 1)
        self.told("set", (3, 5), "put", 4, (3, 4, 5), 1)
        self.told("set", (3, 5), "put", 6, (3, 5, 6), 1)
        self.told("set", (3, 5), "put", -20, (-20, 3, 5), 1)
        self.told("set", (3, 5), "put", 10, (3, 5, 10), 1)
        self.told("set", (-TOP,), "put", TOP, (-TOP, TOP), 1)
        self.told("set", (), "cut", 5, (), 0)
        self.told("set", (3, 4, 5), "cut", 3, (4, 5), 1)
        self.told("set", (3, 4, 5), "cut", 4, (3, 5), 1)
        self.told("set", (3, 4, 5), "cut", 5, (3, 4), 1)
        self.told("set", (3, 5), "cut", 4, (3, 5), 0)
        self.told("set", (5,), "cut", 5, (), 1)
        self.told("set", (), "has", 0, (), 0)
        self.told("set", (0,), "has", 0, (0,), 1)
        self.told("set", (3, 5), "has", 5, (3, 5), 1)
        self.told("set", (3, 5), "has", 4, (3, 5), 0)

    def test_cell(self):
        self.told("cell", 0, "read", None, 0, 0)
        self.told("cell", 0, "write", 7, 7, "ok")
        self.told("cell", 7, "read", None, 7, 7)
        self.told("cell", 7, "write", -TOP, -TOP, "ok")
        self.told("cell", 0, "swap", (0, 4), 4, 1)
        self.told("cell", 4, "swap", (0, 5), 4, 0)
        self.told("cell", 4, "swap", (5, 4), 4, 0)
        self.told("cell", 4, "swap", (4, 4), 4, 1)
        self.told("cell", 4, "swap", (5, 5), 4, 0)
        self.told("cell", 4, "swap", (4, 0), 0, 1)
        self.told("cell", -TOP, "swap", (-TOP, TOP), TOP, 1)
        self.told("cell", TOP, "swap", (-TOP, 0), TOP, 0)

    def test_a_refused_deed_is_refused_at_later_states_too(self):
        for kind, state, verb, worth in [("register", 7, "swap", (7, 8)), ("queue", (1, 2), "take", 1),
                                         ("queue", (1, 2), "read", None), ("set", (1, 2), "has", None),
                                         ("counter", 5, "write", 1), ("cell", 4, "swap", [4, 5])]:
            with self.subTest(kind=kind, verb=verb):
                with self.assertRaises(NoDeed):
                    do(kind, state, verb, worth)


def list_of_deeds(kind):
    worths = {0: [None], 1: [-1, 0, 2], 2: [(0, 2), (2, 0), (0, 0), (-1, 2)]}
    return [(verb, worth) for verb, many in VERBS[kind].items() for worth in worths[many]]


class Model:
    """The five kinds once more, by a list or a set that is changed."""

    def __init__(self, kind):
        self.kind = kind
        self.held = {"queue": [], "set": set()}.get(kind, 0)

    def state(self):
        if self.kind == "set":
            return tuple(sorted(self.held))
        return tuple(self.held) if self.kind == "queue" else self.held

    def answer(self, verb, worth):
        if self.kind == "queue":
            return self.of_queue(verb, worth)
        if self.kind == "set":
            return self.of_set(verb, worth)
        elder = self.held
        if verb == "read":
            return elder
        if verb == "add":
            self.held = elder + worth
            return elder
        if verb == "write":
            self.held = worth
            return "ok"
        self.held = {worth[0]: worth[1]}.get(elder, elder)
        return int(elder == worth[0])

    def of_queue(self, verb, worth):
        if verb == "put":
            self.held.append(worth)
            return "ok"
        return self.held.pop(0) if self.held else "none"

    def of_set(self, verb, worth):
        there = worth in self.held
        if verb == "put":
            self.held.add(worth)
            return int(not there)
        if verb == "cut":
            self.held.discard(worth)
        return int(there)


class RowsOfDeedsTest(unittest.TestCase):
    def test_all_short_rows_of_deeds(self):
        for kind in FIRST:
            for row in itertools.product(list_of_deeds(kind), repeat=4):
                model, state = Model(kind), first_state(kind)
                for verb, worth in row:
                    told = do(kind, state, verb, worth)
                    answer = model.answer(verb, worth)
                    self.assertEqual(repr(told), repr((model.state(), answer)), (kind, row))
                    state = told[0]


if __name__ == "__main__":
    unittest.main()
