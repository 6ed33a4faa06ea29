import copy
import random
import unittest

from makings import WAYS, all_rows, chance_maker_plans, go
from strange import Agreeing, no_texts
from talejudge.errors import NoPlan
from talejudge.judge import judged
from talejudge.makers import all_runs, bad_runs, run_maker
from talejudge.talenotes import read_tale, show_tale
from talejudge.tales import make_tale

READ = ("read", None)
TAKE = ("take", None)
KINDS = ["counter", "queue"]
VERBS = {"+": "add", "p": "put", "r": "read", "t": "take"}


def add(worth):
    return ("add", worth)


def put(worth):
    return ("put", worth)


def tale_of(kind, words):
    """0+5: hand 0 begins to add 5; 0p5: to put it; 0r: to read; 0t: to take; 0:5: it hears 5; 0:ok; 0:none."""
    events = []
    for word in words.split():
        hand, sign, rest = int(word[0]), word[1], word[2:]
        if sign == ":":
            events.append(("end", hand, rest if rest in ["ok", "none"] else int(rest)))
        else:
            events.append(("begin", hand, "t", VERBS[sign], int(rest) if rest else None))
    return make_tale([("t", kind)], events)


class MakersTest(unittest.TestCase):
    def told(self, kind, way, plan, moves, words):
        """By these moves, told by the hands, the tale is as expected; choices tell the hands by those that may go."""
        with self.subTest(kind=kind, way=way, moves=moves):
            choices = []
            for place, hand in enumerate(moves):
                choices.append(go(kind, way, plan, moves[:place])[1].index(hand))
            self.by_choices(kind, way, plan, choices, words)

    def by_choices(self, kind, way, plan, choices, words):
        with self.subTest(kind=kind, way=way, choices=choices):
            self.assertEqual(repr(run_maker(kind, way, plan, choices)), repr(tale_of(kind, words)))


class RunTest(MakersTest):
    def test_no_choices(self):
        for kind, deed in [("counter", READ), ("queue", TAKE)]:
            for way in WAYS:
                for plan in [[[]], [[], []], [[], [], []], [[deed]], [[deed], [deed, deed], [deed]]]:
                    self.assertEqual(run_maker(kind, way, plan, []), ((("t", kind),), ()))

    def test_a_hand_alone(self):
        for way in WAYS:
            self.by_choices("counter", way, [[READ]], [0], "0r 0:0")
            self.by_choices("counter", way, [[add(5)]], [0], "0+5")
            self.by_choices("counter", way, [[add(5)]], [0, 0], "0+5 0:0")
            self.by_choices("counter", way, [[add(5), add(-7), READ, READ]], [0] * 6,
                            "0+5 0:0 0+-7 0:5 0r 0:-2 0r 0:-2")
            self.by_choices("queue", way, [[put(5)]], [0], "0p5")
            self.by_choices("queue", way, [[put(5)]], [0, 0], "0p5 0:ok")
            self.by_choices("queue", way, [[TAKE]], [0], "0t 0:none")
            self.by_choices("queue", way, [[put(5), TAKE, TAKE]], [0] * 3, "0p5 0:ok 0t")
            self.by_choices("queue", way, [[put(5), TAKE, TAKE]], [0] * 4, "0p5 0:ok 0t 0:5")
            self.by_choices("queue", way, [[put(5), TAKE, TAKE]], [0] * 5, "0p5 0:ok 0t 0:5 0t 0:none")
            self.by_choices("queue", way, [[put(5), put(3), TAKE, put(5), TAKE, TAKE]], [0] * 12,
                            "0p5 0:ok 0p3 0:ok 0t 0:5 0p5 0:ok 0t 0:3 0t 0:5")

    def test_an_add_of_nought_has_two_steps(self):
        for way in WAYS:
            self.by_choices("counter", way, [[add(0), READ]], [0], "0+0")
            self.by_choices("counter", way, [[add(0), READ]], [0, 0], "0+0 0:0")

    def test_great_sums(self):
        for way in WAYS:
            self.by_choices("counter", way, [[add(10 ** 9)] * 5 + [READ]], [0] * 11,
                            "0+1000000000 0:0 0+1000000000 0:1000000000 0+1000000000 0:2000000000 "
                            "0+1000000000 0:3000000000 0+1000000000 0:4000000000 0r 0:5000000000")

    def test_choices_behind_the_end(self):
        for way in WAYS:
            self.by_choices("counter", way, [[READ], [READ]], [1, 0, 7, -7, 0, 10 ** 30], "1r 1:0 0r 0:0")
            self.by_choices("counter", way, [[], []], [1, 0, 7, -7], "")

    def test_hands_that_may_go(self):
        # Those that have deeds left or under way, rising; hand 1 has none.
        plan = [[add(1)], [], [READ, READ]]
        self.by_choices("counter", "torn", plan, [1, 0, 1, 0], "2r 2:0 0+1 2r 2:0 0:0")
        # Two may go, then two, then two; at last hand 0 alone.
        self.by_choices("counter", "torn", plan, [1, 1, 1, 1], "2r 2:0 2r 2:0 0+1 0:0")
        # A hand is among them with a deed under way, though it was its last one.
        self.by_choices("counter", "torn", plan, [0, 1, 0, 1], "0+1 2r 2:0 0:0 2r 2:1")

    def test_by_what_is_left_over(self):
        plan = [[add(1)], [], [READ, READ]]
        for times in [1, -1, 2, -2, 10 ** 40, -10 ** 40]:
            choices = [number + 2 * times for number in [1, 0, 1]] + [times]
            self.by_choices("counter", "torn", plan, choices, "2r 2:0 0+1 2r 2:0 0:0")
        plan = [[READ], [READ], [READ]]
        self.by_choices("counter", "torn", plan, [-1, -1, -1], "2r 2:0 1r 1:0 0r 0:0")
        self.by_choices("counter", "torn", plan, [-2, 3, 5], "1r 1:0 2r 2:0 0r 0:0")

    def test_swaps_in_vain(self):
        plan = [[add(1)], [add(2)]]
        # Hand 0 reads 0, hand 1 adds; hand 0's swap is in vain, it reads again, and swaps: three steps more.
        self.told("counter", "swapping", plan, [0, 1, 1], "0+1 1+2 1:0")
        self.told("counter", "swapping", plan, [0, 1, 1, 0], "0+1 1+2 1:0")
        self.told("counter", "swapping", plan, [0, 1, 1, 0, 0], "0+1 1+2 1:0")
        self.told("counter", "swapping", plan, [0, 1, 1, 0, 0, 0], "0+1 1+2 1:0 0:2")
        self.told("queue", "swapping", [[put(1)], [put(2), TAKE]], [0, 1, 1, 0, 0, 0, 1, 1],
                  "0p1 1p2 1:ok 0:ok 1t 1:2")

    def test_a_swap_in_vain_again(self):
        plan = [[add(1)], [add(2), add(3)]]
        self.told("counter", "swapping", plan, [0, 1, 1, 0, 0, 1, 1, 0, 0], "0+1 1+2 1:0 1+3 1:2")
        self.told("counter", "swapping", plan, [0, 1, 1, 0, 0, 1, 1, 0, 0, 0], "0+1 1+2 1:0 1+3 1:2 0:5")

    def test_a_take_finds_the_queue_empty_at_last(self):
        # Both read (5,); the one whose swap is in vain reads again: it is empty, and that is its end.
        plan = [[put(5), TAKE], [TAKE]]
        self.told("queue", "swapping", plan, [0, 0, 0, 1, 0, 1], "0p5 0:ok 0t 1t 0:5")
        self.told("queue", "swapping", plan, [0, 0, 0, 1, 0, 1, 1], "0p5 0:ok 0t 1t 0:5 1:none")
        self.told("queue", "torn", plan, [0, 0, 0, 1, 0, 1], "0p5 0:ok 0t 1t 0:5 1:5")

    def test_whoever_wrote_between(self):
        # The cell holds the same again: the swap is good.
        self.told("counter", "swapping", [[add(1)], [add(2), add(-2)]], [0, 1, 1, 1, 1, 0],
                  "0+1 1+2 1:0 1+-2 1:2 0:0")
        self.told("counter", "swapping", [[add(1)], [add(0)]], [0, 1, 1, 0], "0+1 1+0 1:0 0:0")
        self.told("queue", "swapping", [[put(1)], [put(2), TAKE]], [0, 1, 1, 1, 1, 0],
                  "0p1 1p2 1:ok 1t 1:2 0:ok")
        self.told("queue", "swapping", [[put(7), TAKE], [put(7), TAKE]], [0, 0, 0, 1, 1, 1, 1, 0],
                  "0p7 0:ok 0t 1p7 1:ok 1t 1:7 0:7")

    def test_torn_counters(self):
        plan = [[add(1), READ], [add(2)]]
        # Hand 0 writes what it made of 0: the 2 is gone.
        self.told("counter", "torn", plan, [0, 1, 1, 0, 0], "0+1 1+2 1:0 0:0 0r 0:1")
        self.told("counter", "torn", plan, [1, 0, 0, 1, 0], "1+2 0+1 0:0 1:0 0r 0:2")
        self.told("counter", "torn", plan, [0, 0, 1, 1, 0], "0+1 0:0 1+2 1:1 0r 0:3")

    def test_torn_queues(self):
        self.told("queue", "torn", [[put(1), TAKE, TAKE], [put(2)]], [0, 1, 1, 0, 0, 0, 0],
                  "0p1 1p2 1:ok 0:ok 0t 0:1 0t 0:none")
        # What was taken is put back by a put that had read it.
        self.told("queue", "torn", [[put(1), TAKE, TAKE], [put(2)]], [0, 0, 1, 0, 0, 1, 0, 0],
                  "0p1 0:ok 1p2 0t 0:1 1:ok 0t 0:1")

    def test_reads_beside_adds(self):
        for way in WAYS:
            self.told("counter", way, [[add(4)], [READ, READ]], [0, 1, 0, 1], "0+4 1r 1:0 0:0 1r 1:4")


class AllRunsTest(MakersTest):
    def runs(self, kind, way, plan, rows):
        told = all_runs(kind, way, plan)
        self.assertEqual(repr(told), repr([tale_of(kind, words) for words in rows]))
        self.assertEqual([show_tale(tale) for tale in told], sorted([show_tale(tale) for tale in told]))

    def bad(self, kind, way, plan, rows):
        self.assertEqual(repr(bad_runs(kind, way, plan)), repr([tale_of(kind, words) for words in rows]))

    def test_plans_without_deeds(self):
        for kind in KINDS:
            for way in WAYS:
                for plan in [[[]], [[], []], [[], [], []]]:
                    self.runs(kind, way, plan, [""])
                    self.bad(kind, way, plan, [])

    def test_one_hand(self):
        for way in WAYS:
            self.runs("counter", way, [[add(2), READ]], ["0+2 0:0 0r 0:2"])
            self.runs("queue", way, [[], [TAKE, put(3), TAKE]], ["1t 1:none 1p3 1:ok 1t 1:3"])
            self.bad("queue", way, [[], [TAKE, put(3), TAKE]], [])

    def test_two_adds(self):
        plan = [[add(1)], [add(1)]]
        self.runs("counter", "torn", plan, [
            "0+1 0:0 1+1 1:1", "0+1 1+1 0:0 1:0", "0+1 1+1 1:0 0:0",
            "1+1 0+1 0:0 1:0", "1+1 0+1 1:0 0:0", "1+1 1:0 0+1 0:1"])
        self.bad("counter", "torn", plan, [
            "0+1 1+1 0:0 1:0", "0+1 1+1 1:0 0:0", "1+1 0+1 0:0 1:0", "1+1 0+1 1:0 0:0"])
        self.runs("counter", "swapping", plan, [
            "0+1 0:0 1+1 1:1", "0+1 1+1 0:0 1:1", "0+1 1+1 1:0 0:1",
            "1+1 0+1 0:0 1:1", "1+1 0+1 1:0 0:1", "1+1 1:0 0+1 0:1"])
        self.bad("counter", "swapping", plan, [])

    def test_a_put_and_a_take(self):
        plan = [[put(1)], [TAKE]]
        rows = ["0p1 0:ok 1t 1:1", "0p1 1t 1:none 0:ok", "1t 1:none 0p1 0:ok"]
        for way in WAYS:
            self.runs("queue", way, plan, rows)
            self.bad("queue", way, plan, [])

    def test_sorted_by_texts(self):
        # As texts 10 stands ahead of 2, and begin ahead of end: so other rows than of the tuples.
        self.runs("counter", "swapping", [[add(10)], [add(2)]], [
            "0+10 0:0 1+2 1:10", "0+10 1+2 0:0 1:10", "0+10 1+2 1:0 0:2",
            "1+2 0+10 0:0 1:10", "1+2 0+10 1:0 0:2", "1+2 1:0 0+10 0:2"])

    def test_each_tale_once(self):
        # A step that is not noted may stand in many places: fewer tales than rows.
        plan = [[add(1)], [add(1)], [READ]]
        for way in WAYS:
            rows = all_rows("counter", way, plan, 3000)
            told = all_runs("counter", way, plan)
            self.assertEqual(len(set(told)), len(told))
            self.assertLessEqual(len(told), len(rows))
        plan = [[add(1)], [add(2), add(-2)]]
        self.assertLess(len(all_runs("counter", "swapping", plan)), len(all_rows("counter", "swapping", plan, 3000)))

    def test_many_rows(self):
        # 6 + 6 steps of two hands: 924 rows; 2 + 2 + 4 of three: 420; with reads alone 6! / (2! 2! 2!) = 90.
        for kind, deed in [("counter", add(1)), ("queue", put(1))]:
            self.look_at(kind, "torn", [[deed] * 3, [deed] * 3], 924)
            self.look_at(kind, "torn", [[deed], [deed], [deed] * 2], 420)
        for way in WAYS:
            self.look_at("counter", way, [[READ] * 2] * 3, 90)

    def look_at(self, kind, way, plan, many=None):
        rows = all_rows(kind, way, plan, 3000)
        if rows is None:
            return 0
        with self.subTest(kind=kind, way=way, plan=plan):
            if many is not None:
                self.assertEqual(len(rows), many)
            handed = copy.deepcopy(plan)
            told, bad = all_runs(kind, way, plan), bad_runs(kind, way, plan)
            texts = sorted({show_tale(make_tale([("t", kind)], events)) for moves, events in rows})
            self.assertEqual(repr(told), repr([read_tale(text) for text in texts]))
            self.assertEqual(repr(bad), repr([tale for tale in told if judged(tale, "strict") is None]))
            self.assertEqual(plan, handed)
            if way == "swapping":
                self.assertEqual(bad, [])
        return len(bad)

    def test_by_chance(self):
        bad = sum([self.look_at(*plan) > 0 for plan in chance_maker_plans(61, 60, 5)])
        self.assertGreater(bad, 10)

    def test_runs_by_chance(self):
        source = random.Random(62)
        for kind, way, plan in chance_maker_plans(63, 150, 6):
            with self.subTest(kind=kind, way=way, plan=plan):
                choices = [source.choice([-1, 1]) * source.randrange(10 ** source.randrange(1, 25)) for one in range(30)]
                moves = []
                for choice in choices[:source.randrange(31)]:
                    hands = go(kind, way, plan, moves)[1]
                    moves += [hands[choice % len(hands)]] if hands else []
                    told = run_maker(kind, way, plan, choices[:len(moves)])
                    self.assertEqual(repr(told), repr(make_tale([("t", kind)], go(kind, way, plan, moves)[0])))

    def test_lists_are_the_askers_own(self):
        plan = [[add(1)], [add(1)]]
        for ask in [all_runs, bad_runs]:
            told = ask("counter", "torn", plan)
            again = list(told)
            told.clear()
            self.assertEqual(ask("counter", "torn", plan), again)
        tale = run_maker("counter", "torn", plan, [0, 0])
        plan[0].clear()
        self.assertEqual(tale, tale_of("counter", "0+1 0:0"))
        self.assertEqual(len(all_runs("counter", "torn", plan)), 1)


class PlansTest(unittest.TestCase):
    def refused(self, kind, way, plan):
        with self.subTest(kind=kind, way=way, plan=plan):
            self.assertRaises(NoPlan, run_maker, kind, way, plan, [0])
            self.assertRaises(NoPlan, run_maker, kind, way, plan, [])
            self.assertRaises(NoPlan, all_runs, kind, way, plan)
            self.assertRaises(NoPlan, bad_runs, kind, way, plan)

    def test_kinds(self):
        for kind in ["register", "set", "cell", "", "Counter", "counter ", "queues", "swapping", "counter\n"] + no_texts():
            self.refused(kind, "swapping", [[]])
            self.refused(kind, "torn", [[READ]])
        self.refused("cell", "torn", [[("write", 1)]])

    def test_ways(self):
        for way in ["", "swap", "Swapping", "swapping ", "tor", "torn\n", "counter", "strict"] + no_texts():
            self.refused("counter", way, [[READ]])
            self.refused("queue", way, [[]])

    def test_plans_that_are_no_lists(self):
        for plan in [None, 0, 1, True, "", "add", (), ([],), ([READ],), {}, {0: []}, {READ}, object(), Agreeing(), list]:
            self.refused("counter", "swapping", plan)

    def test_hands_that_are_no_lists(self):
        for own in [None, 0, True, "", "add", (), (READ,), READ, {}, {0: READ}, set(), object(), Agreeing(), list]:
            self.refused("counter", "torn", [own])
            self.refused("counter", "swapping", [[READ], own])

    def test_deeds_that_are_none(self):
        strange = [None, 0, True, "", "read", [], ["read", None], (), ("read",), ("read", None, None), ("read", 0),
                   ("add",), ("add", None), ("add", True), ("add", False), ("add", 1.0), ("add", "1"), ("add", (1,)),
                   ("add", 1, 2), ("add", 10 ** 9 + 1), ("add", -10 ** 9 - 1), ("Add", 1), ("put", None), ("put", True),
                   ("put", 10 ** 9 + 1), ("take", 1), ("take",), ("write", 1), ("swap", (0, 1)), ("has", 1), ("cut", 1),
                   (None, None), (0, 1), ([], []), (["read"], None), (Agreeing(), None), ("add", Agreeing()),
                   ("put", Agreeing()), ("read", Agreeing()), Agreeing(), object(), {"add": 1}]
        for kind, other in [("counter", [put(1), TAKE]), ("queue", [add(1), READ])]:
            for deed in strange + other:
                self.refused(kind, "swapping", [[deed]])
                self.refused(kind, "torn", [[], [deed]])
        self.refused("counter", "torn", [[READ], [add(1), put(1)]])
        self.refused("queue", "swapping", [[put(1), TAKE], [TAKE, READ]])

    def test_edges_of_worths(self):
        for way in WAYS:
            for worth in [0, 1, -10 ** 9, 10 ** 9]:
                self.assertEqual(all_runs("counter", way, [[add(worth)]]), [tale_of("counter", f"0+{worth} 0:0")])
                self.assertEqual(all_runs("queue", way, [[put(worth)]]), [tale_of("queue", f"0p{worth} 0:ok")])
            # One worth may stand more than once.
            self.assertEqual(all_runs("queue", way, [[put(0), put(0)]]), [tale_of("queue", "0p0 0:ok 0p0 0:ok")])

    def test_how_many_hands(self):
        for kind in KINDS:
            for way in WAYS:
                self.refused(kind, way, [])
                self.refused(kind, way, [[], [], [], []])
                self.assertEqual(all_runs(kind, way, [[], [], []]), [((("t", kind),), ())])

    def test_how_many_deeds(self):
        for kind, deed in [("counter", READ), ("queue", TAKE)]:
            for way in WAYS:
                for plan in [[[deed] * 6], [[deed] * 3, [], [deed] * 3]]:
                    tale = run_maker(kind, way, plan, [0] * 6)
                    self.assertEqual(len(tale[1]), 12)
                    self.refused(kind, way, plan[:-1] + [plan[-1] + [deed]])


if __name__ == "__main__":
    unittest.main()
