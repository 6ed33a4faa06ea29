import unittest

from model import Model, chance_tales
from strange import no_numbers, no_texts
from talejudge.beginnings import bad_beginning, beginning, may_answer
from talejudge.errors import NoHand, NoTale
from talejudge.judge import judged
from talejudge.tales import deeds, make_tale

EMPTY = make_tale([], [])
IDLE = make_tale([("a", "register"), ("q", "queue")], [])
# The read that begins behind the write's end hears 0: bad from its end on.
LATE = make_tale([("a", "register"), ("q", "queue")], [
    ("begin", 0, "a", "write", 1), ("begin", 2, "q", "take", None), ("end", 0, "ok"), ("begin", 1, "a", "read", None),
    ("end", 1, 0), ("begin", 0, "a", "read", None), ("end", 2, "none"), ("end", 0, 1)])
# Enough for any answer that the small tales here can have.
ANSWERS = list(range(-6, 7)) + ["none", "ok"]


def is_strict(tale):
    """By the model's word: all orders gone through."""
    model = Model(tale, "strict")
    return any([model.order_of(row)[1] for row in model.rows()])


def queue_of_puts(many, rest):
    """Six hands put at once, again and again, in all so many; then the rest."""
    events = []
    for first in range(0, many, 6):
        hands = range(min(6, many - first))
        events += [("begin", hand, "q", "put", first + hand + 1) for hand in hands]
        events += [("end", hand, "ok") for hand in hands]
    return make_tale([("q", "queue")], events + rest)


class BeginningTest(unittest.TestCase):
    def test_each_number_of_events(self):
        for tale in [EMPTY, IDLE, LATE]:
            for many in range(len(tale[1]) + 1):
                told = beginning(tale, many)
                self.assertEqual(told, (tale[0], tale[1][:many]))
                self.assertEqual(told, make_tale(list(tale[0]), list(tale[1][:many])))
        self.assertEqual(beginning(LATE, 0), IDLE)
        self.assertEqual(beginning(LATE, 8), LATE)
        self.assertEqual(deeds(beginning(LATE, 3)), [
            (0, "a", "write", 1, "ok", 0, 2), (2, "q", "take", None, None, 1, None)])

    def test_below_none_and_above_all(self):
        for tale in [EMPTY, IDLE, LATE]:
            for many in [-1, -2, -len(tale[1]) - 1, -10 ** 40, len(tale[1]) + 1, len(tale[1]) + 2, 49, 10 ** 40]:
                with self.subTest(many=many):
                    self.assertRaises(NoTale, beginning, tale, many)

    def test_no_numbers(self):
        for many in no_numbers() + [None]:
            with self.subTest(many=many):
                self.assertRaises(NoTale, beginning, LATE, many)


class BadBeginningTest(unittest.TestCase):
    def told(self, tale, expected):
        with self.subTest(tale=tale):
            bad = bad_beginning(tale)
            self.assertEqual(repr(bad), repr(expected))
            for many in range(len(tale[1]) + 1):
                order = judged(beginning(tale, many), "strict")
                self.assertEqual(order is None, bad is not None and many >= bad)

    def test_of_strict_tales(self):
        self.told(EMPTY, None)
        self.told(IDLE, None)
        for many in range(5):
            self.told(beginning(LATE, many), None)

    def test_in_the_middle(self):
        for many in range(5, 9):
            self.told(beginning(LATE, many), 5)

    def test_at_each_place(self):
        events = []
        for turn in range(12):
            events += [("begin", turn % 6, "n", "add", 1), ("end", turn % 6, turn)]
        for turn in range(12):
            wrong = list(events)
            wrong[2 * turn + 1] = ("end", turn % 6, turn + 1)
            self.told(make_tale([("n", "counter")], wrong), 2 * turn + 2)
        self.told(make_tale([("n", "counter")], events), None)

    def test_an_end_of_another_kind(self):
        self.told(make_tale([("a", "register")], [("begin", 0, "a", "read", None), ("end", 0, "ok")]), 2)
        self.told(make_tale([("a", "register")], [("begin", 0, "a", "write", 1), ("end", 0, 1)]), 2)

    def test_a_later_begin_comes_too_late(self):
        # 7 is read ahead of its write's begin, though the read is explained by bare.
        self.told(make_tale([("a", "register")], [
            ("begin", 0, "a", "read", None), ("end", 0, 7), ("begin", 1, "a", "write", 7), ("end", 1, "ok")]), 2)
        self.assertIsNotNone(judged(make_tale([("a", "register")], [
            ("begin", 0, "a", "read", None), ("end", 0, 7), ("begin", 1, "a", "write", 7), ("end", 1, "ok")]), "bare"))

    def test_an_open_deed_may_still_have_been_done(self):
        # The first take hears 1: done behind an open put. The second one hears it again: that is too much.
        self.told(make_tale([("q", "queue")], [
            ("begin", 0, "q", "put", 1), ("begin", 1, "q", "take", None), ("end", 1, 1),
            ("begin", 1, "q", "take", None), ("end", 1, 1), ("end", 0, "ok")]), 5)

    def test_thousands_of_places(self):
        self.assertIsNone(bad_beginning(queue_of_puts(9, [])))
        self.assertEqual(bad_beginning(queue_of_puts(9, [("begin", 0, "q", "take", None), ("end", 0, 99)])), 20)
        self.assertEqual(bad_beginning(queue_of_puts(9, [
            ("begin", 0, "q", "take", None), ("end", 0, 7), ("begin", 0, "q", "put", 3), ("end", 0, "ok")])), 20)

    def test_by_chance(self):
        counts = {}
        for tale in chance_tales(21, 500, 5):
            bad = [many for many in range(len(tale[1]) + 1) if not is_strict(beginning(tale, many))]
            self.told(tale, min(bad, default=None))
            counts[min(bad, default=None)] = counts.get(min(bad, default=None), 0) + 1
            # A strict tale has no bad beginning, and behind a bad one are none but bad ones.
            self.assertEqual(is_strict(tale), bad == [])
            self.assertEqual(bad, list(range(min(bad, default=0), len(tale[1]) + 1)) if bad else [])
        self.assertGreater(counts[None], 100, counts)
        self.assertGreater(len(counts), 6, counts)


class MayAnswerTest(unittest.TestCase):
    def told(self, tale, hand, expected):
        with self.subTest(tale=tale, hand=hand):
            self.assertEqual(repr(may_answer(tale, hand)), repr(expected))

    def test_numbers_rising(self):
        tale = make_tale([("a", "register")], [
            ("begin", 0, "a", "write", 9), ("begin", 1, "a", "write", -3), ("begin", 2, "a", "read", None),
            ("begin", 3, "a", "write", 10)])
        self.told(tale, 2, [-3, 0, 9, 10])
        for hand in [0, 1, 3]:
            self.told(tale, hand, ["ok"])

    def test_numbers_ahead_of_texts(self):
        tale = make_tale([("q", "queue")], [
            ("begin", 0, "q", "take", None), ("begin", 1, "q", "put", 7), ("begin", 2, "q", "put", -7)])
        self.told(tale, 0, [-7, 7, "none"])

    def test_texts_alone(self):
        self.told(make_tale([("q", "queue")], [("begin", 5, "q", "take", None)]), 5, ["none"])
        self.told(make_tale([("q", "queue")], [("begin", 5, "q", "put", 4)]), 5, ["ok"])

    def test_each_kind(self):
        for kind, verb, worth, answers in [
                ("register", "read", None, [0]), ("register", "write", 1, ["ok"]), ("counter", "add", 3, [0]),
                ("counter", "read", None, [0]), ("set", "put", 3, [1]), ("set", "cut", 3, [0]), ("set", "has", 3, [0]),
                ("cell", "read", None, [0]), ("cell", "swap", (0, 1), [1]), ("cell", "swap", (1, 0), [0]),
                ("cell", "write", 0, ["ok"])]:
            self.told(make_tale([("t", kind)], [("begin", 0, "t", verb, worth)]), 0, answers)

    def test_answers_that_go_nowhere(self):
        # Either add may be next at first. But the read heard 1, so the add of 2 is behind it: 2 is no answer to hand 1.
        tale = make_tale([("n", "counter")], [
            ("begin", 1, "n", "add", 1), ("begin", 2, "n", "add", 2), ("begin", 0, "n", "read", None), ("end", 0, 1)])
        self.told(tale, 1, [0])
        self.told(tale, 2, [1])
        swaps = make_tale([("a", "cell")], [
            ("begin", 0, "a", "write", 1), ("end", 0, "ok"), ("begin", 1, "a", "swap", (1, 2)),
            ("begin", 2, "a", "read", None), ("end", 2, 2), ("begin", 3, "a", "read", None)])
        self.told(swaps, 1, [1])
        self.told(swaps, 3, [2])

    def test_begun_long_ago(self):
        tale = make_tale([("n", "counter")], [
            ("begin", 4, "n", "read", None), ("begin", 0, "n", "add", 1), ("end", 0, 0), ("begin", 0, "n", "add", 1),
            ("end", 0, 1), ("begin", 1, "n", "read", None)])
        self.told(tale, 4, [0, 1, 2])
        self.told(tale, 1, [2])

    def test_beyond_worths(self):
        events = []
        for turn in range(3):
            events += [("begin", 0, "n", "add", 10 ** 9), ("end", 0, turn * 10 ** 9)]
        tale = make_tale([("n", "counter")], events + [("begin", 0, "n", "read", None)])
        self.told(tale, 0, [3 * 10 ** 9])

    def test_tales_that_are_not_strict(self):
        tale = make_tale(list(LATE[0]), list(LATE[1][:6]))
        for hand in [0, 2]:
            self.told(tale, hand, [])
        self.told(make_tale([("a", "register")], [
            ("begin", 0, "a", "read", None), ("end", 0, "ok"), ("begin", 0, "a", "read", None)]), 0, [])

    def test_no_hands(self):
        tale = beginning(LATE, 4)
        self.told(tale, 1, [1])
        self.told(tale, 2, ["none"])
        for hand in [0, 3, 4, 5, 6, -1, -2, 24, 10 ** 40, None] + no_numbers() + no_texts():
            if type(hand) is int and hand == 1:
                continue
            with self.subTest(hand=hand):
                self.assertRaises(NoHand, may_answer, tale, hand)
        for hand in list(range(-1, 7)) + [None, True, False, 0.0, "0"]:
            for tale in [EMPTY, IDLE, LATE]:
                self.assertRaises(NoHand, may_answer, tale, hand)

    def test_truths_are_no_hands(self):
        tale = make_tale([("a", "register")], [("begin", 0, "a", "read", None), ("begin", 1, "a", "read", None)])
        for hand in [True, False, 0.0, 1.0, "0", "1", (0,), [1]]:
            self.assertRaises(NoHand, may_answer, tale, hand)

    def test_no_hand_of_a_tale_that_is_not_strict(self):
        self.assertRaises(NoHand, may_answer, LATE, 0)

    def test_told_anew_each_time(self):
        tale = make_tale([("q", "queue")], [("begin", 0, "q", "take", None)])
        may_answer(tale, 0).append(5)
        self.told(tale, 0, ["none"])

    def test_thousands_of_places(self):
        self.told(queue_of_puts(9, [("begin", 3, "q", "take", None)]), 3, [1, 2, 3, 4, 5, 6])
        takes = [("begin", 3, "q", "take", None), ("begin", 4, "q", "take", None), ("end", 3, 5)]
        self.told(queue_of_puts(6, takes), 4, [1, 2, 3, 4, 6])

    def test_by_chance(self):
        counts = {}
        whole = chance_tales(22, 500, 5, 1)
        # Cut short they have more open deeds.
        for tale in whole + [beginning(tale, len(tale[1]) * 2 // 3) for tale in whole]:
            for hand in sorted({deed[0] for deed in deeds(tale) if deed[6] is None}):
                ended = [make_tale(list(tale[0]), list(tale[1]) + [("end", hand, answer)]) for answer in ANSWERS]
                expected = [answer for answer, longer in zip(ANSWERS, ended) if is_strict(longer)]
                self.told(tale, hand, expected)
                counts[len(expected)] = counts.get(len(expected), 0) + 1
        for many in [0, 1, 2, 3]:
            self.assertGreater(counts[many], 10, counts)


if __name__ == "__main__":
    unittest.main()
