import copy
import unittest

from strange import no_numbers, no_steps, no_strictnesses, no_texts
from talejudge.errors import NoStrictness
from talejudge.orders import explains, has_to
from talejudge.tales import make_tale

STRICTNESSES = ["strict", "hands", "bare"]
EMPTY = make_tale([], [])
IDLE = make_tale([("a", "register"), ("q", "queue")], [])
# Ended are 0, 1 and 2; open are 3 (of a hand's first deed), 4 and 5. The queue has no deeds.
MIXED = make_tale([("a", "register"), ("n", "counter"), ("q", "queue")], [
    ("begin", 0, "a", "write", 1), ("begin", 1, "a", "read", None), ("end", 0, "ok"), ("begin", 0, "a", "write", 2),
    ("end", 1, 1), ("begin", 2, "a", "read", None), ("end", 0, "ok"), ("begin", 1, "a", "read", None),
    ("begin", 0, "n", "add", 7)])
# Two hands, one behind the other, and the second one reads what was there ahead of the first one's write.
LATE = make_tale([("a", "register")], [
    ("begin", 0, "a", "write", 1), ("end", 0, "ok"), ("begin", 1, "a", "read", None), ("end", 1, 0)])
# One hand reads ahead of its own write what it writes only then.
FORESEEN = make_tale([("a", "register")], [
    ("begin", 0, "a", "read", None), ("end", 0, 1), ("begin", 0, "a", "write", 1), ("end", 0, "ok")])
# An open put, and a take that heard of it, and an open take of another hand.
PUT = make_tale([("q", "queue")], [
    ("begin", 0, "q", "put", 5), ("begin", 1, "q", "take", None), ("end", 1, 5), ("begin", 2, "q", "take", None)])


class OrdersTest(unittest.TestCase):
    def explained(self, tale, order, by):
        """By these strictnesses, and by no others, the list is an order that explains the tale."""
        for strictness in STRICTNESSES:
            with self.subTest(order=order, strictness=strictness):
                self.assertIs(explains(tale, strictness, order), strictness in by)


class HasToTest(unittest.TestCase):
    def told(self, tale, strict, hands):
        self.assertEqual(has_to(tale, "strict"), strict)
        self.assertEqual(has_to(tale, "hands"), hands)
        self.assertEqual(has_to(tale, "bare"), [])

    def test_no_events(self):
        self.told(EMPTY, [], [])
        self.told(IDLE, [], [])

    def test_ended_and_open_deeds_of_several_hands(self):
        strict = [(0, 2), (0, 3), (0, 4), (0, 5), (1, 3), (1, 4), (1, 5), (2, 4), (2, 5)]
        self.told(MIXED, strict, [(0, 2), (0, 5), (1, 4), (2, 5)])

    def test_deeds_on_unlike_things(self):
        tale = make_tale([("a", "cell"), ("b", "set")], [
            ("begin", 3, "b", "has", 1), ("end", 3, 0), ("begin", 5, "a", "read", None), ("end", 5, 0),
            ("begin", 3, "a", "read", None), ("end", 3, 0)])
        self.told(tale, [(0, 1), (0, 2), (1, 2)], [(0, 2)])

    def test_a_deed_that_ends_right_ahead_of_a_begin(self):
        self.told(LATE, [(0, 1)], [])

    def test_a_deed_that_ends_right_behind_a_begin(self):
        tale = make_tale([("a", "register")], [
            ("begin", 0, "a", "write", 1), ("begin", 1, "a", "read", None), ("end", 0, "ok"), ("end", 1, 0)])
        self.told(tale, [], [])

    def test_open_deeds_alone(self):
        tale = make_tale([("a", "register")], [("begin", hand, "a", "read", None) for hand in range(6)])
        self.told(tale, [], [])

    def test_one_hand(self):
        tale = make_tale([("n", "counter")], [("begin", 4, "n", "add", 1), ("end", 4, 0)] * 24)
        pairs = [(one, other) for one in range(24) for other in range(one + 1, 24)]
        self.told(tale, pairs, pairs)

    def test_answers_that_cannot_be_change_nothing(self):
        tale = make_tale([("a", "register")], [
            ("begin", 1, "a", "read", None), ("end", 1, "none"), ("begin", 0, "a", "write", 3), ("end", 0, 77)])
        self.told(tale, [(0, 1)], [])

    def test_by_strict_all_that_by_hands(self):
        for tale in [MIXED, LATE, FORESEEN, PUT]:
            self.assertLessEqual(set(has_to(tale, "hands")), set(has_to(tale, "strict")))

    def test_tuples_in_a_new_list_each_time(self):
        for strictness in STRICTNESSES:
            first = has_to(MIXED, strictness)
            kept = list(first)
            self.assertIs(type(first), list)
            self.assertTrue(all([type(pair) is tuple for pair in first]))
            first.append("something else")
            first.reverse()
            self.assertEqual(has_to(MIXED, strictness), kept)
            self.assertIsNot(has_to(MIXED, strictness), has_to(MIXED, strictness))

    def test_no_strictness(self):
        for strictness in no_strictnesses():
            for tale in [MIXED, EMPTY, None, 0, ()]:
                with self.subTest(strictness=strictness, tale=tale):
                    with self.assertRaises(NoStrictness):
                        has_to(tale, strictness)


class ExplainsTest(OrdersTest):
    def test_no_events(self):
        for tale in [EMPTY, IDLE]:
            self.explained(tale, [], STRICTNESSES)
            self.explained(tale, [(0, "ok")], [])
            self.explained(tale, [(0, 0)], [])

    def test_ended_deeds_alone(self):
        self.explained(MIXED, [(0, "ok"), (1, 1), (2, "ok")], STRICTNESSES)

    def test_ended_deeds_the_wrong_way_about(self):
        self.explained(MIXED, [(2, "ok"), (0, "ok"), (1, 1)], ["bare"])
        self.explained(LATE, [(1, 0), (0, "ok")], ["hands", "bare"])
        self.explained(LATE, [(0, "ok"), (1, 0)], [])
        self.explained(FORESEEN, [(1, "ok"), (0, 1)], ["bare"])
        self.explained(FORESEEN, [(0, 1), (1, "ok")], [])

    def test_an_ended_deed_left_out(self):
        self.explained(MIXED, [], [])
        self.explained(MIXED, [(0, "ok"), (1, 1)], [])
        self.explained(MIXED, [(0, "ok"), (2, "ok")], [])
        self.explained(MIXED, [(0, "ok"), (1, 1), (5, 0)], [])
        self.explained(LATE, [(0, "ok")], [])
        self.explained(LATE, [(1, 0)], [])

    def test_a_deed_told_twice(self):
        self.explained(MIXED, [(0, "ok"), (0, "ok"), (1, 1), (2, "ok")], [])
        self.explained(MIXED, [(0, "ok"), (1, 1), (1, 1), (2, "ok")], [])
        self.explained(MIXED, [(0, "ok"), (1, 1), (2, "ok"), (2, "ok")], [])
        self.explained(MIXED, [(0, "ok"), (1, 1), (2, "ok"), (4, 2), (4, 2)], [])
        self.explained(MIXED, [(0, "ok"), (1, 1), (2, "ok"), (5, 0), (5, 7)], [])

    def test_an_ended_deed_with_another_answer(self):
        self.explained(MIXED, [(0, "ok"), (1, 0), (2, "ok")], [])
        self.explained(MIXED, [(0, "ok"), (2, "ok"), (1, 2)], [])
        self.explained(MIXED, [(0, 1), (1, 1), (2, "ok")], [])
        self.explained(MIXED, [(0, "none"), (1, 1), (2, "ok")], [])
        self.explained(LATE, [(0, "ok"), (1, 1)], [])

    def test_the_tale_has_another_answer_than_the_store(self):
        tale = make_tale([("a", "register")], [("begin", 0, "a", "write", 1), ("end", 0, "none")])
        for answer in ["none", "ok", 1, 0]:
            self.explained(tale, [(0, answer)], [])

    def test_open_deeds_in_it(self):
        self.explained(MIXED, [(0, "ok"), (1, 1), (2, "ok"), (3, 2)], STRICTNESSES)
        self.explained(MIXED, [(0, "ok"), (1, 1), (3, 1), (2, "ok")], STRICTNESSES)
        self.explained(MIXED, [(0, "ok"), (1, 1), (3, 1), (2, "ok"), (5, 0), (4, 2)], STRICTNESSES)
        self.explained(MIXED, [(3, 0), (0, "ok"), (1, 1), (2, "ok")], ["hands", "bare"])
        self.explained(MIXED, [(0, "ok"), (5, 0), (1, 1), (2, "ok")], ["bare"])
        self.explained(MIXED, [(0, "ok"), (1, 1), (4, 1), (2, "ok")], ["hands", "bare"])
        self.explained(MIXED, [(4, 0), (0, "ok"), (1, 1), (2, "ok")], ["bare"])

    def test_an_open_deed_with_another_answer_than_the_store(self):
        for answer in [0, 1, 3, -2, "ok", "none", "2", ""]:
            self.explained(MIXED, [(0, "ok"), (1, 1), (2, "ok"), (3, answer)], [])
        for answer in [7, 1, "ok", "none"]:
            self.explained(MIXED, [(0, "ok"), (1, 1), (2, "ok"), (5, answer)], [])

    def test_an_open_deed_that_others_heard_of(self):
        self.explained(PUT, [(0, "ok"), (1, 5)], STRICTNESSES)
        self.explained(PUT, [(1, 5)], [])
        self.explained(PUT, [(1, 5), (0, "ok")], [])
        self.explained(PUT, [(0, "ok"), (1, 5), (2, "none")], STRICTNESSES)
        self.explained(PUT, [(0, "ok"), (2, 5), (1, 5)], [])
        self.explained(PUT, [(2, "none"), (0, "ok"), (1, 5)], ["hands", "bare"])

    def test_each_thing_has_its_own_state(self):
        tale = make_tale([("b", "register"), ("a", "register"), ("c", "counter")], [
            ("begin", 0, "b", "write", 4), ("begin", 1, "a", "read", None), ("begin", 2, "c", "add", 3),
            ("end", 0, "ok"), ("end", 1, 0), ("end", 2, 0), ("begin", 0, "b", "read", None), ("end", 0, 4),
            ("begin", 1, "c", "read", None), ("end", 1, 3)])
        self.explained(tale, [(0, "ok"), (1, 0), (2, 0), (3, 4), (4, 3)], STRICTNESSES)
        self.explained(tale, [(2, 0), (4, 3), (1, 0), (0, "ok"), (3, 4)], ["bare"])
        self.explained(tale, [(2, 0), (1, 0), (4, 3), (0, "ok"), (3, 4)], ["hands", "bare"])
        self.explained(tale, [(0, "ok"), (1, 0), (3, 4), (4, 3), (2, 0)], [])

    def test_answers_beyond_worths(self):
        tale = make_tale([("n", "counter")], [
            ("begin", 0, "n", "add", 10 ** 9), ("begin", 1, "n", "add", 10 ** 9), ("begin", 2, "n", "read", None)])
        self.explained(tale, [(0, 0), (1, 10 ** 9), (2, 2 * 10 ** 9)], STRICTNESSES)
        self.explained(tale, [(1, 0), (0, 10 ** 9), (2, 2 * 10 ** 9)], STRICTNESSES)
        self.explained(tale, [(1, 0), (0, 10 ** 9), (2, 10 ** 9)], [])

    def test_numbers_of_no_deed(self):
        for number in [-1, -3, 3, 4, 10 ** 30, -10 ** 30]:
            self.explained(PUT, [(0, "ok"), (1, 5), (number, "none")], [])
        for number in [-1, -2, -3, 3]:
            self.explained(PUT, [(number, "ok"), (1, 5)], [])

    def test_what_is_no_number_of_a_deed(self):
        tale = make_tale([("a", "register")], [("begin", 0, "a", "write", 1), ("begin", 1, "a", "write", 2)])
        self.explained(tale, [(0, "ok"), (1, "ok")], STRICTNESSES)
        for number in no_numbers() + [None]:
            self.explained(tale, [(number, "ok")], [])
            self.explained(tale, [(0, "ok"), (number, "ok")], [])
            self.explained(LATE, [(number, 0), (0, "ok")], [])

    def test_truths_in_the_place_of_answers(self):
        tale = make_tale([("s", "set")], [
            ("begin", 0, "s", "put", 1), ("end", 0, 1), ("begin", 0, "s", "has", 2), ("end", 0, 0),
            ("begin", 0, "s", "has", 1), ("begin", 1, "s", "has", 2)])
        right = [(0, 1), (1, 0), (2, 1), (3, 0)]
        self.explained(tale, right, STRICTNESSES)
        for place, step in enumerate(right):
            for answer in [bool(step[1]), float(step[1]), complex(step[1]), str(step[1]), None, [step[1]]]:
                wrong = list(right)
                wrong[place] = (step[0], answer)
                self.explained(tale, wrong, [])

    def test_what_is_no_answer(self):
        for answer in no_texts() + no_numbers():
            if not (type(answer) is str and answer == "ok"):
                self.explained(PUT, [(0, answer), (1, 5)], [])
            self.explained(PUT, [(0, "ok"), (1, 5), (2, answer)], [])

    def test_what_is_no_step(self):
        for step in no_steps():
            for tale, right in [(PUT, [(0, "ok"), (1, 5)]), (LATE, [(1, 0), (0, "ok")]), (EMPTY, [])]:
                for place in range(len(right) + 1):
                    self.explained(tale, right[:place] + [step] + right[place:], [])
            self.explained(PUT, [step], [])

    def test_steps_that_are_lists(self):
        self.explained(PUT, [[0, "ok"], [1, 5]], [])
        self.explained(PUT, [(0, "ok"), [1, 5]], [])

    def test_steps_of_other_lengths(self):
        self.explained(PUT, [(0, "ok", 0), (1, 5)], [])
        self.explained(PUT, [(0,), (1, 5)], [])
        self.explained(PUT, [(), (0, "ok"), (1, 5)], [])

    def test_a_long_list(self):
        self.explained(PUT, [(0, "ok"), (1, 5)] * 200, [])
        self.explained(PUT, [(2, "none")] * 400, [])

    def test_a_tale_of_many_deeds(self):
        tale = make_tale([("n", "counter")], [
            event for k in range(24) for event in [("begin", k % 6, "n", "add", 2), ("end", k % 6, 2 * k)]])
        order = [(k, 2 * k) for k in range(24)]
        self.explained(tale, order, STRICTNESSES)
        self.explained(tale, list(reversed(order)), [])
        self.explained(tale, order[1:], [])

    def test_what_is_handed_in_stays(self):
        for order in [[(0, "ok"), (1, 5)], [(1, 5), (0, "ok")], [(0, "ok"), [1, 5]], [{}, [[]]]]:
            kept = copy.deepcopy(order)
            for strictness in STRICTNESSES:
                explains(PUT, strictness, order)
                self.assertEqual(order, kept)

    def test_no_strictness(self):
        for strictness in no_strictnesses():
            for order in [[(0, "ok"), (1, 5)], [], [None], [[]], None, 0]:
                for tale in [PUT, EMPTY, None]:
                    with self.subTest(strictness=strictness, order=order, tale=tale):
                        with self.assertRaises(NoStrictness):
                            explains(tale, strictness, order)


if __name__ == "__main__":
    unittest.main()
