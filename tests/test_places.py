import copy
import unittest

from strange import no_strictnesses
from talejudge.errors import NoStrictness
from talejudge.places import all_places, first_place, is_full, nexts
from talejudge.tales import make_tale

STRICTNESSES = ["strict", "hands", "bare"]
EMPTY = make_tale([], [])
IDLE = make_tale([("s", "set"), ("a", "register"), ("q", "queue"), ("c", "cell"), ("n", "counter")], [])
# Two writes of one hand, a read that another hand began between them, and an open read of a third one.
READ = make_tale([("a", "register")], [
    ("begin", 0, "a", "write", 1), ("end", 0, "ok"), ("begin", 1, "a", "read", None), ("begin", 0, "a", "write", 2),
    ("end", 0, "ok"), ("end", 1, 1), ("begin", 2, "a", "read", None)])
# Two things, all deeds at once: two puts, and an open take.
PUTS = make_tale([("q", "queue"), ("s", "set")], [
    ("begin", 0, "q", "put", 5), ("begin", 1, "s", "put", 3), ("begin", 2, "q", "take", None), ("end", 0, "ok"),
    ("end", 1, 1)])


class FirstPlaceTest(unittest.TestCase):
    def test_no_things(self):
        self.assertEqual(repr(first_place(EMPTY)), "((), ())")

    def test_states_in_the_order_of_the_things(self):
        # The things' order is a, c, n, q, s.
        self.assertEqual(repr(first_place(IDLE)), "((), (0, 0, 0, (), ()))")

    def test_deeds_are_not_done(self):
        self.assertEqual(repr(first_place(READ)), "((), (0,))")
        self.assertEqual(repr(first_place(PUTS)), "((), ((), ()))")


class NextsTest(unittest.TestCase):
    def told(self, tale, strictness, place, expected):
        with self.subTest(strictness=strictness, place=place):
            self.assertEqual(repr(nexts(tale, strictness, place)), repr(expected))

    def told_by_all(self, tale, place, expected):
        for strictness in STRICTNESSES:
            self.told(tale, strictness, place, expected)

    def test_no_deeds(self):
        self.told_by_all(EMPTY, ((), ()), [])
        self.told_by_all(IDLE, ((), (0, 0, 0, (), ())), [])

    def test_from_the_first_place(self):
        write = (0, "ok", ((0,), (1,)))
        self.told(READ, "strict", ((), (0,)), [write])
        self.told(READ, "hands", ((), (0,)), [write, (3, 0, ((3,), (0,)))])
        self.told(READ, "bare", ((), (0,)), [write, (2, "ok", ((2,), (2,))), (3, 0, ((3,), (0,)))])

    def test_an_ended_deed_just_with_its_answer(self):
        read = (1, 1, ((0, 1), (1,)))
        write = (2, "ok", ((0, 2), (2,)))
        last = (3, 1, ((0, 3), (1,)))
        self.told(READ, "strict", ((0,), (1,)), [read, write])
        self.told(READ, "hands", ((0,), (1,)), [read, write, last])
        self.told(READ, "bare", ((0,), (1,)), [read, write, last])
        self.told(READ, "strict", ((0, 2), (2,)), [])
        self.told(READ, "hands", ((0, 2), (2,)), [(3, 2, ((0, 2, 3), (2,)))])

    def test_an_open_deed_with_the_answer_of_the_store(self):
        self.told_by_all(READ, ((0, 1, 2), (2,)), [(3, 2, ((0, 1, 2, 3), (2,)))])
        self.told_by_all(READ, ((0, 1, 2), (-77,)), [(3, -77, ((0, 1, 2, 3), (-77,)))])

    def test_none_where_all_is_done(self):
        self.told_by_all(READ, ((0, 1, 2, 3), (2,)), [])

    def test_each_state_stands_at_its_thing(self):
        take = (2, "none", ((2,), ((), ())))
        self.told_by_all(PUTS, ((), ((), ())), [(0, "ok", ((0,), ((5,), ()))), (1, 1, ((1,), ((), (3,)))), take])
        self.told_by_all(PUTS, ((0,), ((5,), ())), [
            (1, 1, ((0, 1), ((5,), (3,)))), (2, 5, ((0, 2), ((), ())))])
        self.told_by_all(PUTS, ((2,), ((), ())), [(0, "ok", ((0, 2), ((5,), ()))), (1, 1, ((1, 2), ((), (3,))))])

    def test_many_things(self):
        names = "abcdef"
        tale = make_tale([(name, "register") for name in names], [
            ("begin", hand, names[5 - hand], "write", hand + 1) for hand in range(6)])
        self.told_by_all(tale, ((1, 3), (0, 0, 4, 0, 2, 0)), [
            (0, "ok", ((0, 1, 3), (0, 0, 4, 0, 2, 1))), (2, "ok", ((1, 2, 3), (0, 0, 4, 3, 2, 0))),
            (4, "ok", ((1, 3, 4), (0, 5, 4, 0, 2, 0))), (5, "ok", ((1, 3, 5), (6, 0, 4, 0, 2, 0)))])

    def test_states_that_cannot_be_come_to(self):
        self.told_by_all(PUTS, ((), ((9, -9), (2, 10 ** 50))), [
            (0, "ok", ((0,), ((9, -9, 5), (2, 10 ** 50)))), (1, 1, ((1,), ((9, -9), (2, 3, 10 ** 50)))),
            (2, 9, ((2,), ((-9,), (2, 10 ** 50))))])
        self.told_by_all(PUTS, ((0,), ((), (3,))), [(2, "none", ((0, 2), ((), (3,))))])

    def test_a_deed_ahead_is_not_done(self):
        # By strict the write has to be ahead of all others, by hands of the hand's own one.
        self.told(READ, "strict", ((2,), (1,)), [])
        self.told(READ, "strict", ((3,), (1,)), [])
        self.told(READ, "strict", ((), (1,)), [(0, "ok", ((0,), (1,)))])
        self.told(READ, "hands", ((), (1,)), [
            (0, "ok", ((0,), (1,))), (1, 1, ((1,), (1,))), (3, 1, ((3,), (1,)))])

    def test_a_deed_behind_is_done(self):
        self.told(READ, "strict", ((1, 2, 3), (1,)), [])
        self.told(READ, "strict", ((1,), (1,)), [])
        self.told(READ, "hands", ((2,), (1,)), [(1, 1, ((1, 2), (1,))), (3, 1, ((2, 3), (1,)))])
        self.told(READ, "hands", ((1, 3), (1,)), [(0, "ok", ((0, 1, 3), (1,)))])
        self.told(READ, "bare", ((1, 2, 3), (1,)), [(0, "ok", ((0, 1, 2, 3), (1,)))])
        # The open read stands behind both ended deeds of others.
        self.told(READ, "strict", ((0, 3), (1,)), [])
        self.told(READ, "strict", ((0, 1, 3), (1,)), [])

    def test_a_new_list_each_time(self):
        place = ((0,), (1,))
        first = nexts(READ, "bare", place)
        kept = list(first)
        self.assertIs(type(first), list)
        first.clear()
        self.assertEqual(nexts(READ, "bare", place), kept)
        self.assertEqual(place, ((0,), (1,)))

    def test_no_strictness(self):
        for strictness in no_strictnesses():
            for place in [((), (0,)), ((0,), (1,)), None, (), []]:
                for tale in [READ, EMPTY, None]:
                    with self.subTest(strictness=strictness, place=place, tale=tale):
                        with self.assertRaises(NoStrictness):
                            nexts(tale, strictness, place)


class IsFullTest(unittest.TestCase):
    def test_no_deeds(self):
        self.assertIs(is_full(EMPTY, ((), ())), True)
        self.assertIs(is_full(IDLE, ((), (0, 0, 0, (), ()))), True)

    def test_open_deeds_alone(self):
        tale = make_tale([("a", "register")], [("begin", 0, "a", "write", 1), ("begin", 4, "a", "read", None)])
        for place in [((), (0,)), ((0,), (1,)), ((1,), (0,)), ((0, 1), (1,))]:
            self.assertIs(is_full(tale, place), True)

    def test_all_ended_deeds_are_done(self):
        self.assertIs(is_full(READ, ((0, 1, 2), (2,))), True)
        self.assertIs(is_full(READ, ((0, 1, 2, 3), (2,))), True)

    def test_an_ended_deed_is_not_done(self):
        for done in [(), (0,), (1,), (2,), (3,), (0, 1), (0, 2), (1, 2), (0, 1, 3), (0, 2, 3), (1, 2, 3)]:
            with self.subTest(done):
                self.assertIs(is_full(READ, (done, (2,))), False)

    def test_places_that_cannot_be_come_to(self):
        self.assertIs(is_full(READ, ((0, 1, 2), (99,))), True)
        self.assertIs(is_full(PUTS, ((0, 1), ((7, 7, 10 ** 50), ()))), True)
        self.assertIs(is_full(PUTS, ((1, 2), ((5,), (3,)))), False)


class AllPlacesTest(unittest.TestCase):
    def told(self, tale, strictness, expected):
        with self.subTest(strictness):
            self.assertEqual(repr(all_places(tale, strictness)), repr(expected))

    def test_no_deeds(self):
        for strictness in STRICTNESSES:
            self.told(EMPTY, strictness, [((), ())])
            self.told(IDLE, strictness, [((), (0, 0, 0, (), ()))])

    def test_by_each_strictness(self):
        self.told(READ, "strict", [
            ((), (0,)), ((0,), (1,)), ((0, 1), (1,)), ((0, 2), (2,)), ((0, 1, 2), (2,)), ((0, 1, 2, 3), (2,))])
        self.told(READ, "hands", [
            ((), (0,)), ((0,), (1,)), ((3,), (0,)), ((0, 1), (1,)), ((0, 2), (2,)), ((0, 3), (1,)),
            ((0, 1, 2), (2,)), ((0, 1, 3), (1,)), ((0, 2, 3), (2,)), ((0, 1, 2, 3), (2,))])
        self.told(READ, "bare", [
            ((), (0,)), ((0,), (1,)), ((2,), (2,)), ((3,), (0,)), ((0, 1), (1,)), ((0, 2), (1,)), ((0, 2), (2,)),
            ((0, 3), (1,)), ((2, 3), (2,)), ((0, 1, 2), (1,)), ((0, 1, 2), (2,)), ((0, 1, 3), (1,)),
            ((0, 2, 3), (1,)), ((0, 2, 3), (2,)), ((0, 1, 2, 3), (1,)), ((0, 1, 2, 3), (2,))])

    def test_things_and_tuples(self):
        for strictness in STRICTNESSES:
            self.told(PUTS, strictness, [
                ((), ((), ())), ((0,), ((5,), ())), ((1,), ((), (3,))), ((2,), ((), ())), ((0, 1), ((5,), (3,))),
                ((0, 2), ((), ())), ((0, 2), ((5,), ())), ((1, 2), ((), (3,))), ((0, 1, 2), ((), (3,))),
                ((0, 1, 2), ((5,), (3,)))])

    def test_many_deeds_done_stand_behind_few_done(self):
        # As tuples alone (0, 1) would be ahead of (1,).
        tale = make_tale([("n", "counter")], [("begin", hand, "n", "add", hand + 1) for hand in range(3)])
        self.told(tale, "strict", [
            ((), (0,)), ((0,), (1,)), ((1,), (2,)), ((2,), (3,)), ((0, 1), (3,)), ((0, 2), (4,)), ((1, 2), (5,)),
            ((0, 1, 2), (6,))])

    def test_one_place_by_many_ways_is_told_once(self):
        tale = make_tale([("s", "set")], [
            event for k in range(10) for event in [("begin", 0, "s", "has", k), ("end", 0, 0)]])
        places = all_places(tale, "bare")
        self.assertEqual(len(places), 2 ** 10)
        self.assertEqual(len(set(places)), 2 ** 10)
        self.assertEqual(places, sorted(places, key=lambda place: (len(place[0]), place)))
        self.assertEqual(len(all_places(tale, "strict")), 11)

    def test_places_behind_a_full_one_are_told(self):
        tale = make_tale([("n", "counter")], [
            ("begin", 0, "n", "read", None), ("end", 0, 0), ("begin", 1, "n", "add", 4)])
        self.told(tale, "strict", [((), (0,)), ((0,), (0,)), ((0, 1), (4,))])

    def test_a_deed_that_never_fits(self):
        tale = make_tale([("n", "counter")], [("begin", 0, "n", "add", 1), ("end", 0, "ok")])
        for strictness in STRICTNESSES:
            self.told(tale, strictness, [((), (0,))])

    def test_many_places(self):
        names = "abcdef"
        events = []
        for turn in range(4):
            events += [("begin", hand, names[hand], "write", turn + 1) for hand in range(6)]
            events += [("end", hand, "ok") for hand in range(6)]
        tale = make_tale([(name, "register") for name in names], events)
        places = all_places(tale, "hands")
        self.assertEqual(len(places), 5 ** 6)
        self.assertEqual(len(set(places)), 5 ** 6)
        self.assertEqual(places, sorted(places, key=lambda place: (len(place[0]), place)))

    def test_a_new_list_each_time(self):
        for strictness in STRICTNESSES:
            first = all_places(READ, strictness)
            kept = copy.deepcopy(first)
            self.assertIs(type(first), list)
            first.clear()
            self.assertEqual(all_places(READ, strictness), kept)

    def test_no_strictness(self):
        for strictness in no_strictnesses():
            for tale in [READ, EMPTY, None]:
                with self.subTest(strictness=strictness, tale=tale):
                    with self.assertRaises(NoStrictness):
                        all_places(tale, strictness)


if __name__ == "__main__":
    unittest.main()
