import copy
import unittest

from strange import no_strictnesses
from talejudge.errors import NoStrictness
from talejudge.judge import judged
from talejudge.orders import explains
from talejudge.places import all_places, is_full
from talejudge.tales import make_tale

STRICTNESSES = ["strict", "hands", "bare"]
EMPTY = make_tale([], [])
IDLE = make_tale([("a", "register"), ("q", "queue")], [])


def row(things, *deeds):
    """A tale of deeds (hand, name, verb, worth, answer), each one ended ahead of the next one's begin."""
    return make_tale(things, [event for hand, name, verb, worth, answer in deeds
                              for event in [("begin", hand, name, verb, worth), ("end", hand, answer)]])


def at_once(things, *deeds):
    """A tale of deeds of hands 0, 1, .., all of them begun ahead of each end; open where the answer is None."""
    begins = [("begin", hand) + deed[:3] for hand, deed in enumerate(deeds)]
    return make_tale(things, begins + [("end", hand, deed[3]) for hand, deed in enumerate(deeds) if deed[3] is not None])


class JudgedTest(unittest.TestCase):
    def told(self, tale, by):
        """By these strictnesses, and by no others, there is an order, and it is always the same one."""
        for strictness in STRICTNESSES:
            with self.subTest(tale=tale, strictness=strictness):
                order = judged(tale, strictness)
                full = [place for place in all_places(tale, strictness) if is_full(tale, place)]
                self.assertEqual(order is None, len(full) == 0)
                if strictness in by:
                    self.assertIs(type(order), list)
                    self.assertIs(explains(tale, strictness, order), True)
                else:
                    self.assertIsNone(order)
                self.assertEqual(judged(tale, strictness), order)

    def test_no_events(self):
        for strictness in STRICTNESSES:
            self.assertEqual(judged(EMPTY, strictness), [])
            self.assertEqual(judged(IDLE, strictness), [])

    def test_just_one_order(self):
        tale = at_once([("n", "counter")], ("n", "add", 1, 6), ("n", "add", 2, 4), ("n", "add", 4, 0))
        for strictness in STRICTNESSES:
            self.assertEqual(judged(tale, strictness), [(2, 0), (1, 4), (0, 6)])

    def test_one_behind_the_other(self):
        things = [("a", "register")]
        self.told(row(things, (0, "a", "write", 1, "ok"), (1, "a", "read", None, 1)), STRICTNESSES)
        self.told(row(things, (0, "a", "write", 1, "ok"), (1, "a", "read", None, 0)), ["hands", "bare"])
        self.told(row(things, (0, "a", "write", 1, "ok"), (0, "a", "read", None, 0)), ["bare"])
        self.told(row(things, (0, "a", "write", 1, "ok"), (0, "a", "read", None, 2)), [])
        self.told(row(things, (1, "a", "read", None, 1), (0, "a", "write", 1, "ok")), ["hands", "bare"])

    def test_reads_that_turn_about(self):
        tale = make_tale([("a", "register")], [
            ("begin", 0, "a", "write", 1), ("begin", 1, "a", "read", None), ("end", 1, 1),
            ("begin", 2, "a", "read", None), ("end", 2, 0), ("end", 0, "ok")])
        self.told(tale, ["hands", "bare"])

    def test_two_things_that_fit_one_by_one_but_not_both(self):
        things = [("p", "queue"), ("q", "queue")]
        tale = row(things, (0, "p", "put", 1, "ok"), (1, "q", "put", 2, "ok"), (0, "q", "take", None, "none"),
                   (1, "p", "take", None, "none"))
        self.told(tale, ["bare"])
        tale = row(things, (0, "p", "put", 1, "ok"), (1, "q", "put", 2, "ok"), (0, "q", "take", None, "none"),
                   (1, "p", "take", None, 1))
        self.told(tale, ["hands", "bare"])

    def test_an_open_deed_that_is_needed(self):
        things = [("q", "queue")]
        self.told(at_once(things, ("q", "put", 5, None), ("q", "take", None, 5)), STRICTNESSES)
        self.told(at_once(things, ("q", "take", None, 5), ("q", "put", 5, None)), STRICTNESSES)
        self.told(at_once(things, ("q", "put", 5, None), ("q", "take", None, 6)), [])
        for strictness in STRICTNESSES:
            self.assertEqual(judged(at_once(things, ("q", "take", None, 5), ("q", "put", 5, None)), strictness)[:2],
                             [(1, "ok"), (0, 5)])

    def test_an_open_deed_that_must_stay_out_or_come_late(self):
        things = [("q", "queue")]
        tale = at_once(things, ("q", "take", None, None), ("q", "put", 5, "ok"), ("q", "take", None, 5))
        self.told(tale, STRICTNESSES)

    def test_an_open_deed_begun_too_late(self):
        tale = make_tale([("a", "register")], [
            ("begin", 0, "a", "read", None), ("end", 0, 3), ("begin", 1, "a", "write", 3)])
        self.told(tale, ["hands", "bare"])

    def test_open_deeds_alone(self):
        self.told(at_once([("c", "cell")], ("c", "swap", (0, 1), None), ("c", "swap", (1, 2), None),
                          ("c", "read", None, None)), STRICTNESSES)

    def test_each_kind(self):
        self.told(at_once([("s", "set")], ("s", "put", 4, 0), ("s", "put", 4, 1), ("s", "has", 4, 0),
                          ("s", "cut", 4, 1), ("s", "cut", 4, 0)), STRICTNESSES)
        self.told(at_once([("s", "set")], ("s", "put", 4, 1), ("s", "put", 4, 1), ("s", "has", 4, 0)), [])
        self.told(at_once([("c", "cell")], ("c", "swap", (1, 2), 1), ("c", "swap", (0, 1), 1),
                          ("c", "swap", (1, 2), 0), ("c", "read", None, 1)), STRICTNESSES)
        self.told(at_once([("c", "cell")], ("c", "swap", (0, 1), 1), ("c", "swap", (0, 1), 1)), [])
        self.told(at_once([("q", "queue")], ("q", "take", None, 2), ("q", "put", 1, "ok"), ("q", "put", 2, "ok"),
                          ("q", "take", None, 1), ("q", "take", None, "none")), STRICTNESSES)
        self.told(at_once([("n", "counter")], ("n", "read", None, 3), ("n", "add", 3, -3), ("n", "add", -3, 0),
                          ("n", "add", 3, 0)), STRICTNESSES)

    def test_answers_that_no_store_tells(self):
        self.told(row([("a", "register")], (0, "a", "write", 1, 1)), [])
        self.told(row([("a", "register")], (0, "a", "read", None, "none")), [])
        self.told(row([("a", "register")], (0, "a", "read", None, 10 ** 12)), [])

    def test_twenty_four_deeds(self):
        deeds = [(k % 6, "n", "add", 1, k) for k in range(24)]
        self.told(row([("n", "counter")], *deeds), STRICTNESSES)
        swapped = [deed[:4] + (answer,) for deed, answer in zip(deeds, [1, 0] + list(range(2, 24)))]
        self.told(row([("n", "counter")], *swapped), ["hands", "bare"])

    def test_many_places(self):
        names = "abcdef"
        events = []
        for turn in range(4):
            events += [("begin", hand, names[hand], "write", turn + 1) for hand in range(6)]
            events += [("end", hand, "ok") for hand in range(6)]
        things = [(name, "register") for name in names]
        for strictness in ["strict", "hands"]:
            tale = make_tale(things, events)
            self.assertIs(explains(tale, strictness, judged(tale, strictness)), True)
            self.assertIsNone(judged(make_tale(things, events[:-1] + [("end", 5, "none")]), strictness))

    def test_a_new_list_each_time(self):
        tale = at_once([("n", "counter")], ("n", "add", 1, 2), ("n", "add", 2, 0), ("n", "read", None, None))
        for strictness in STRICTNESSES:
            for judgement in [tale, EMPTY]:
                first = judged(judgement, strictness)
                kept = copy.deepcopy(first)
                first.append("something else")
                self.assertEqual(judged(judgement, strictness), kept)

    def test_no_strictness(self):
        for strictness in no_strictnesses():
            for tale in [EMPTY, IDLE, row([("a", "register")], (0, "a", "read", None, 1)), None]:
                with self.subTest(strictness=strictness, tale=tale):
                    with self.assertRaises(NoStrictness):
                        judged(tale, strictness)


if __name__ == "__main__":
    unittest.main()
