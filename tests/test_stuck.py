import copy
import unittest

from strange import no_numbers, no_steps, no_strictnesses
from talejudge.errors import NoStrictness
from talejudge.places import all_places
from talejudge.stuck import is_stuck, stuck_paper
from talejudge.tales import make_tale

STRICTNESSES = ["strict", "hands", "bare"]
EMPTY = make_tale([], [])
IDLE = make_tale([("a", "register"), ("q", "queue")], [])
# Nobody writes 9.
LOST = make_tale([("a", "register")], [
    ("begin", 0, "a", "write", 1), ("begin", 1, "a", "read", None), ("end", 0, "ok"), ("end", 1, 9),
    ("begin", 2, "a", "read", None)])
LOST_STRICT = [((), (0,)), ((0,), (1,))]
# Read too late: explained by hands and bare, not by strict.
LATE = make_tale([("a", "register")], [
    ("begin", 0, "a", "write", 1), ("end", 0, "ok"), ("begin", 1, "a", "read", None), ("end", 1, 0)])
LATE_STRICT = [((), (0,)), ((0,), (1,))]
# A thing of each kind; the second put of the set heard that 3 was not there.
KINDS = make_tale([("a", "register"), ("c", "cell"), ("n", "counter"), ("q", "queue"), ("s", "set")], [
    ("begin", 0, "s", "put", 3), ("begin", 1, "s", "put", 3), ("end", 0, 1), ("end", 1, 1)])
KINDS_STRICT = [((), (0, 0, 0, (), ())), ((0,), (0, 0, 0, (), (3,))), ((1,), (0, 0, 0, (), (3,)))]


class StuckPaperTest(unittest.TestCase):
    def told(self, tale, strictness, expected):
        with self.subTest(strictness):
            paper = stuck_paper(tale, strictness)
            self.assertEqual(repr(paper), repr(expected))
            if paper is not None:
                self.assertEqual(paper, all_places(tale, strictness))
                self.assertIs(is_stuck(tale, strictness, paper), True)

    def test_no_events(self):
        for strictness in STRICTNESSES:
            self.told(EMPTY, strictness, None)
            self.told(IDLE, strictness, None)

    def test_none_where_an_order_explains(self):
        self.told(LATE, "hands", None)
        self.told(LATE, "bare", None)

    def test_all_places_where_no_order_explains(self):
        self.told(LATE, "strict", LATE_STRICT)
        self.told(LOST, "strict", LOST_STRICT)
        # By strict the open read has to be behind the one that never fits.
        places = [((), (0,)), ((0,), (1,)), ((2,), (0,)), ((0, 2), (1,))]
        self.told(LOST, "hands", places)
        self.told(LOST, "bare", places)
        for strictness in STRICTNESSES:
            self.told(KINDS, strictness, KINDS_STRICT)

    def test_the_first_place_alone(self):
        tale = make_tale([("q", "queue")], [("begin", 0, "q", "take", None), ("end", 0, "ok")])
        for strictness in STRICTNESSES:
            self.told(tale, strictness, [((), ((),))])

    def test_open_deeds_alone(self):
        tale = make_tale([("q", "queue")], [("begin", 0, "q", "take", None), ("begin", 1, "q", "put", 1)])
        for strictness in STRICTNESSES:
            self.told(tale, strictness, None)

    def test_many_places(self):
        names = "abcdef"
        events = []
        for turn in range(4):
            events += [("begin", hand, names[hand], "write", turn + 1) for hand in range(6)]
            events += [("end", hand, "ok") for hand in range(6)]
        tale = make_tale([(name, "register") for name in names], events[:-1] + [("end", 5, "none")])
        paper = stuck_paper(tale, "hands")
        self.assertEqual(len(paper), 5 ** 5 * 4)
        self.assertEqual(paper, all_places(tale, "hands"))
        self.assertIs(is_stuck(tale, "hands", paper), True)
        self.assertIs(is_stuck(tale, "hands", paper + list(reversed(paper))), True)
        self.assertIs(is_stuck(tale, "hands", paper[:-1]), False)
        self.assertIs(is_stuck(tale, "strict", paper), True)

    def test_a_new_list_each_time(self):
        first = stuck_paper(LOST, "bare")
        kept = copy.deepcopy(first)
        self.assertIs(type(first), list)
        first.clear()
        self.assertEqual(stuck_paper(LOST, "bare"), kept)

    def test_no_strictness(self):
        for strictness in no_strictnesses():
            for tale in [EMPTY, LOST, LATE, None]:
                with self.subTest(strictness=strictness, tale=tale):
                    with self.assertRaises(NoStrictness):
                        stuck_paper(tale, strictness)


class IsStuckTest(unittest.TestCase):
    def told(self, tale, strictness, paper, expected):
        with self.subTest(strictness=strictness, paper=paper):
            self.assertIs(is_stuck(tale, strictness, paper), expected)

    def test_the_places_in_any_order(self):
        for tale, strictness, paper in [(LOST, "strict", LOST_STRICT), (LATE, "strict", LATE_STRICT),
                                        (KINDS, "bare", KINDS_STRICT)]:
            self.told(tale, strictness, paper, True)
            self.told(tale, strictness, list(reversed(paper)), True)

    def test_a_place_twice(self):
        for place in LOST_STRICT:
            self.told(LOST, "strict", LOST_STRICT + [place], True)
            self.told(LOST, "strict", [place] + LOST_STRICT, True)
        self.told(LOST, "strict", LOST_STRICT * 50, True)
        self.told(LOST, "strict", LOST_STRICT[:1] * 2, False)

    def test_without_the_first_place(self):
        self.told(LOST, "strict", [], False)
        self.told(LOST, "strict", LOST_STRICT[1:], False)
        self.told(LOST, "strict", [((), (1,)), ((0,), (1,))], False)
        self.told(KINDS, "strict", KINDS_STRICT[1:], False)
        # Closed, and none of it full, but it is not come to.
        self.told(LATE, "bare", [((0,), (1,))], False)

    def test_without_a_next_place(self):
        self.told(LOST, "strict", LOST_STRICT[:1], False)
        self.told(KINDS, "strict", KINDS_STRICT[:2], False)
        self.told(KINDS, "strict", [KINDS_STRICT[0], KINDS_STRICT[2]], False)
        paper = stuck_paper(LOST, "bare")
        for place in paper:
            self.told(LOST, "bare", [other for other in paper if other != place], False)

    def test_with_a_full_place(self):
        self.told(EMPTY, "strict", [((), ())], False)
        self.told(LOST, "strict", LOST_STRICT + [((0, 1), (1,))], False)
        self.told(LOST, "strict", LOST_STRICT + [((0, 1, 2), (9,))], False)
        for strictness in ["hands", "bare"]:
            self.told(LATE, strictness, all_places(LATE, strictness), False)
            open_ended = [place for place in all_places(LATE, strictness) if place[0] != (0, 1)]
            self.told(LATE, strictness, open_ended, False)

    def test_more_places_that_cannot_be_come_to(self):
        # In none of these states the read hears 0; in the last one it does.
        self.told(LATE, "strict", LATE_STRICT + [((0,), (7,)), ((0,), (10 ** 40,)), ((0,), (-5,))], True)
        self.told(LATE, "strict", LATE_STRICT + [((0,), (0,))], False)
        self.told(LATE, "strict", LATE_STRICT + [((1,), (0,))], True)
        # By bare the write may be next there, and the place is full then.
        self.told(LATE, "bare", LATE_STRICT + [((1,), (0,))], False)
        # From 5 on just the write may be next, and it goes to a place of the paper; from 9 on the read may, too.
        self.told(LOST, "strict", LOST_STRICT + [((), (5,))], True)
        self.told(LOST, "strict", LOST_STRICT + [((), (9,))], False)
        self.told(LOST, "hands", LOST_STRICT + [((2,), (0,))], False)

    def test_a_paper_of_another_strictness(self):
        paper = stuck_paper(LOST, "bare")
        self.told(LOST, "hands", paper, True)
        self.told(LOST, "strict", paper, True)
        self.told(LOST, "bare", LOST_STRICT, False)
        self.told(LATE, "hands", LATE_STRICT, False)

    def test_states_of_any_size(self):
        for states in [(10 ** 40, -10 ** 40, 10 ** 13, (10 ** 40, -3, -3), (-10 ** 40, 3, 10 ** 40)),
                       (0, 0, 0, (5, 4, 5), (3,)), (0, 0, 0, (), (1, 2, 3))]:
            self.told(KINDS, "strict", KINDS_STRICT + [((0,), states), ((1,), states)], True)

    def test_states_of_other_kinds(self):
        right = (0, 0, 0, (), (3,))
        for number in no_numbers() + [None]:
            for thing in range(3):
                self.told_of_state(right, thing, number)
            self.told_of_state(right, 3, (number,))
            self.told_of_state(right, 3, (1, number))
            self.told_of_state(right, 4, (number, 3))
            self.told_of_state(right, 4, (3, number))
        for thing in [3, 4]:
            for state in [None, 0, 3, True, "", "abc", [], [3], {}, set(), frozenset([3]), range(3), ((),), ((3,),)]:
                self.told_of_state(right, thing, state)
        for state in [(3, 3), (3, 1), (1, 3, 3), (1, 3, 2), (3, 4, 3)]:
            self.told_of_state(right, 4, state)

    def told_of_state(self, right, thing, state):
        states = right[:thing] + (state,) + right[thing + 1:]
        self.told(KINDS, "strict", KINDS_STRICT + [((0,), states)], False)

    def test_other_numbers_of_states(self):
        for states in [(), (0,), (0, 0, 0, ()), (0, 0, 0, (), (3,), 0), [0, 0, 0, (), (3,)], None, 0, "abcde"]:
            self.told(KINDS, "strict", KINDS_STRICT + [((0,), states)], False)

    def test_deeds_that_are_none(self):
        for done in [(-1,), (3,), (0, 3), (0, 10 ** 30), (-10 ** 30, 0), (0, 0), (2, 0), (2, 2), [0], [], None, 0, "",
                     "0", {}, {0: 0}, (None,), ((),), ((0,),), ((), 0)]:
            self.told(LOST, "strict", LOST_STRICT + [(done, (1,))], False)
        for number in no_numbers():
            self.told(LOST, "strict", LOST_STRICT + [((number,), (1,))], False)
            self.told(LOST, "strict", LOST_STRICT + [((0, number), (1,))], False)

    def test_truths_in_the_place_of_numbers(self):
        self.told(LOST, "strict", [((), (False,)), ((0,), (1,))], False)
        self.told(LOST, "strict", [((), (0,)), ((False,), (1,))], False)
        self.told(LOST, "strict", [((), (0,)), ((0,), (True,))], False)
        self.told(LOST, "strict", [((), (0.0,)), ((0,), (1,))], False)

    def test_what_is_no_place(self):
        for place in no_steps():
            for tale, paper in [(LOST, LOST_STRICT), (KINDS, KINDS_STRICT)]:
                self.told(tale, "strict", paper + [place], False)
                self.told(tale, "strict", [place] + paper, False)
            self.told(LOST, "strict", [place], False)
        self.told(LOST, "strict", [list(place) for place in LOST_STRICT], False)
        self.told(LOST, "strict", [place + ((),) for place in LOST_STRICT], False)

    def test_what_is_handed_in_stays(self):
        for paper in [LOST_STRICT + LOST_STRICT, [((0,), (1,))], [[], {}, LOST_STRICT[0]], []]:
            handed = copy.deepcopy(paper)
            for strictness in STRICTNESSES:
                is_stuck(LOST, strictness, handed)
                self.assertEqual(handed, paper)

    def test_no_strictness(self):
        for strictness in no_strictnesses():
            for paper in [LOST_STRICT, [], [None], [[]], None, 0]:
                for tale in [LOST, EMPTY, None]:
                    with self.subTest(strictness=strictness, paper=paper, tale=tale):
                        with self.assertRaises(NoStrictness):
                            is_stuck(tale, strictness, paper)


if __name__ == "__main__":
    unittest.main()
