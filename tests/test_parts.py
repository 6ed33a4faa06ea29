import copy
import itertools
import unittest

from model import Model, chance_tales
from strange import Agreeing, no_numbers, no_steps, no_texts
from talejudge.errors import NoOrder, NoThing
from talejudge.orders import explains
from talejudge.parts import joined, numbers_of, part
from talejudge.tales import deeds, make_tale

EMPTY = make_tale([], [])
IDLE = make_tale([("q", "queue"), ("a", "register")], [])
# Three things, three hands; hand 2 ends on one thing and goes on with another; c has no deeds, two deeds are open.
MIXED = make_tale([("q", "queue"), ("a", "register"), ("c", "cell")], [
    ("begin", 0, "q", "put", 5),
    ("begin", 1, "a", "write", 5),
    ("begin", 2, "q", "take", None),
    ("end", 2, "none"),
    ("end", 0, "ok"),
    ("begin", 2, "a", "read", None),
    ("begin", 0, "q", "take", None),
    ("end", 2, 5),
    ("begin", 2, "q", "put", 6)])
MIXED_A = make_tale([("a", "register")], [
    ("begin", 1, "a", "write", 5), ("begin", 2, "a", "read", None), ("end", 2, 5)])
MIXED_Q = make_tale([("q", "queue")], [
    ("begin", 0, "q", "put", 5), ("begin", 2, "q", "take", None), ("end", 2, "none"), ("end", 0, "ok"),
    ("begin", 0, "q", "take", None), ("begin", 2, "q", "put", 6)])
# The numbers of its deeds: a has 1, 3 (1 is open); q has 0, 2, 4, 5 (4 and 5 are open).
MIXED_ORDERS = [[(1, "ok"), (3, 5)], [], [(2, "none"), (0, "ok")]]
NAMES = ["abcdef", "abc", "ab", "a"]


def no_names():
    """Names that the tales here have not, and what is no name at all."""
    return no_texts() + no_numbers() + [None, "", "b", "A", "qa", "aq", "a ", " a", "a\n", "queue", "register", ("a",),
                                        "aaaaaaaaa", 10 ** 40, -1]


def own_events(tale, name):
    """The events of the thing, each hand's end beside its begin."""
    found, now = [], {}
    for event in tale[1]:
        if event[0] == "begin":
            now[event[1]] = event[2]
        if now[event[1]] == name:
            found.append(event)
    return found


def part_orders(tale, name):
    """All orders that explain the part strictly, with the whole tale's numbers."""
    model = Model(part(tale, name), "strict")
    orders = [order for order, right in map(model.order_of, model.rows()) if right]
    return [[(numbers_of(tale, name)[number], answer) for number, answer in order] for order in orders]


class PartTest(unittest.TestCase):
    def test_of_each_thing(self):
        self.assertEqual(part(MIXED, "a"), MIXED_A)
        self.assertEqual(part(MIXED, "q"), MIXED_Q)
        self.assertEqual(numbers_of(MIXED, "a"), [1, 3])
        self.assertEqual(numbers_of(MIXED, "q"), [0, 2, 4, 5])

    def test_thing_without_deeds(self):
        self.assertEqual(part(MIXED, "c"), ((("c", "cell"),), ()))
        self.assertEqual(numbers_of(MIXED, "c"), [])
        self.assertEqual(part(IDLE, "q"), ((("q", "queue"),), ()))
        self.assertEqual(numbers_of(IDLE, "q"), [])

    def test_one_thing_alone(self):
        for tale in [MIXED_A, MIXED_Q]:
            name = tale[0][0][0]
            self.assertEqual(part(tale, name), tale)
            self.assertEqual(numbers_of(tale, name), list(range(len(deeds(tale)))))

    def test_worths_and_hands_like_a_name(self):
        tale = make_tale([("begin", "set"), ("end", "set")], [
            ("begin", 0, "end", "put", 0), ("end", 0, 1), ("begin", 0, "begin", "put", 0), ("end", 0, 1)])
        self.assertEqual(part(tale, "end")[1], tale[1][:2])
        self.assertEqual(part(tale, "begin")[1], tale[1][2:])

    def test_names_that_the_tale_has_not(self):
        for name in no_names():
            for tale in [EMPTY, IDLE, MIXED]:
                with self.subTest(name=name):
                    self.assertRaises(NoThing, part, tale, name)
                    self.assertRaises(NoThing, numbers_of, tale, name)
        for name in ["a", "q", "c"]:
            self.assertRaises(NoThing, part, EMPTY, name)
            self.assertRaises(NoThing, numbers_of, EMPTY, name)
        self.assertRaises(NoThing, part, MIXED_A, "q")
        self.assertRaises(NoThing, numbers_of, MIXED_Q, "a")

    def test_told_anew_each_time(self):
        told = numbers_of(MIXED, "q")
        told.append(9)
        self.assertEqual(numbers_of(MIXED, "q"), [0, 2, 4, 5])
        self.assertIsNot(numbers_of(MIXED, "c"), numbers_of(MIXED, "c"))

    def test_by_chance(self):
        for tale in chance_tales(11, 300, 9, names=NAMES):
            with self.subTest(tale=tale):
                numbers = []
                for name, kind in tale[0]:
                    own = part(tale, name)
                    self.assertEqual(own, (((name, kind),), tuple(own_events(tale, name))))
                    self.assertEqual(own, make_tale([(name, kind)], list(own[1])))
                    told = numbers_of(tale, name)
                    self.assertIs(type(told), list)
                    self.assertEqual(told, sorted(told))
                    self.assertEqual([deeds(tale)[number][:5] for number in told], [deed[:5] for deed in deeds(own)])
                    numbers += told
                self.assertEqual(sorted(numbers), list(range(len(deeds(tale)))))


class JoinedTest(unittest.TestCase):
    def told(self, tale, orders):
        """One order that explains the whole and keeps each thing's own."""
        with self.subTest(tale=tale, orders=orders):
            kept = copy.deepcopy(orders)
            order = joined(tale, orders)
            self.assertEqual(orders, kept)
            self.assertIs(type(order), list)
            self.assertIs(explains(tale, "strict", order), True)
            # The model's own word, too: it knows nothing of the program's orders.
            self.assertEqual(Model(tale, "strict").order_of([number for number, answer in order]), (order, True))
            for thing, own in zip(tale[0], orders):
                self.assertEqual([step for step in order if deeds(tale)[step[0]][1] == thing[0]], own)
            self.assertEqual(len(order), sum([len(own) for own in orders]))
            self.assertEqual(joined(tale, copy.deepcopy(orders)), order)
            return order

    def refused(self, tale, orders):
        with self.subTest(orders=orders):
            self.assertRaises(NoOrder, joined, tale, orders)

    def test_nothing_to_join(self):
        self.assertEqual(self.told(EMPTY, []), [])
        self.assertEqual(self.told(IDLE, [[], []]), [])

    def test_several_things(self):
        self.told(MIXED, MIXED_ORDERS)

    def test_one_thing_alone(self):
        order = [(0, "ok"), (1, 5)]
        self.assertEqual(self.told(MIXED_A, [order]), order)

    def test_open_deeds_in_and_out(self):
        self.told(MIXED, [[(1, "ok"), (3, 5)], [], [(2, "none"), (0, "ok"), (4, 5)]])
        self.told(MIXED, [[(1, "ok"), (3, 5)], [], [(2, "none"), (0, "ok"), (4, 5), (5, "ok")]])
        self.told(MIXED, [[(1, "ok"), (3, 5)], [], [(2, "none"), (0, "ok"), (5, "ok")]])
        lonely = make_tale([("a", "register"), ("b", "register")], [
            ("begin", 0, "a", "write", 1), ("begin", 1, "b", "write", 1)])
        for orders in itertools.product([[], [(0, "ok")]], [[], [(1, "ok")]]):
            self.told(lonely, list(orders))

    def test_a_later_step_holds_others_back(self):
        # On a the write of 1, begun last, stands first: b's deed ended ahead of its begin, so that must go ahead.
        tale = make_tale([("a", "register"), ("b", "register")], [
            ("begin", 0, "a", "write", 2), ("begin", 1, "b", "write", 7), ("end", 1, "ok"),
            ("begin", 1, "a", "write", 1), ("end", 1, "ok"), ("end", 0, "ok"),
            ("begin", 2, "a", "read", None), ("end", 2, 2)])
        self.told(tale, [[(2, "ok"), (0, "ok"), (3, 2)], [(1, "ok")]])

    def test_things_row_is_not_the_deeds_row(self):
        tale = make_tale([("a", "counter"), ("b", "counter")], [
            ("begin", 0, "b", "add", 1), ("end", 0, 0), ("begin", 0, "a", "add", 1), ("end", 0, 0),
            ("begin", 0, "b", "add", 1), ("end", 0, 1), ("begin", 0, "a", "add", 1), ("end", 0, 1)])
        order = self.told(tale, [[(1, 0), (3, 1)], [(0, 0), (2, 1)]])
        self.assertEqual(order, [(0, 0), (1, 0), (2, 1), (3, 1)])

    def test_too_few_and_too_many(self):
        self.refused(EMPTY, [[]])
        self.refused(IDLE, [])
        self.refused(IDLE, [[]])
        self.refused(IDLE, [[], [], []])
        self.refused(MIXED, [])
        self.refused(MIXED, MIXED_ORDERS[:2])
        self.refused(MIXED, MIXED_ORDERS + [[]])
        self.refused(MIXED, [MIXED_ORDERS[0], MIXED_ORDERS[2]])
        self.refused(MIXED, [[step for order in MIXED_ORDERS for step in order]])

    def test_orders_that_do_not_explain(self):
        for number, order in [
                (0, [(3, 5), (1, "ok")]), (0, [(3, 5)]), (0, [(1, "ok")]), (0, []), (0, [(1, "ok"), (3, 5), (3, 5)]),
                (0, [(1, "ok"), (3, 4)]), (0, [(1, 5), (3, 5)]), (0, [(1, "none"), (3, 5)]),
                (2, [(0, "ok"), (2, "none")]), (2, [(0, "ok"), (2, 5)]), (2, [(2, "none")]),
                (2, [(2, "none"), (0, "ok"), (4, "none")]), (2, [(2, "none"), (0, "ok"), (4, 6), (5, "ok")]),
                (2, [(4, "none"), (2, "none"), (0, "ok")]), (2, [(2, "none"), (5, "ok"), (0, "ok")])]:
            orders = copy.deepcopy(MIXED_ORDERS)
            orders[number] = order
            self.refused(MIXED, orders)
        # Explained by hands, but not strictly.
        late = make_tale([("a", "register")], [
            ("begin", 0, "a", "write", 1), ("end", 0, "ok"), ("begin", 1, "a", "read", None), ("end", 1, 0)])
        self.refused(late, [[(1, 0), (0, "ok")]])

    def test_the_parts_numbers(self):
        self.refused(MIXED, [[(0, "ok"), (1, 5)], [], [(2, "none"), (0, "ok")]])
        self.refused(MIXED, [[(1, "ok"), (3, 5)], [], [(1, "none"), (0, "ok")]])
        twice = make_tale([("a", "counter"), ("b", "counter")], [
            ("begin", 0, "a", "add", 1), ("begin", 1, "b", "add", 1), ("end", 0, 0), ("end", 1, 0)])
        self.told(twice, [[(0, 0)], [(1, 0)]])
        self.refused(twice, [[(0, 0)], [(0, 0)]])

    def test_deeds_of_another_thing(self):
        self.refused(MIXED, [MIXED_ORDERS[2], [], MIXED_ORDERS[0]])
        self.refused(MIXED, [[(1, "ok"), (3, 5)], [(4, 5)], [(2, "none"), (0, "ok")]])
        self.refused(MIXED, [[(1, "ok"), (3, 5), (4, 5)], [], [(2, "none"), (0, "ok")]])
        self.refused(MIXED, [[(1, "ok"), (3, 5), (2, "none"), (0, "ok")], [], []])
        self.refused(MIXED, [[(1, "ok"), (3, 5)], [(1, "ok"), (3, 5)], [(2, "none"), (0, "ok")]])

    def test_numbers_that_no_deed_has(self):
        for number in [-1, -3, -5, 6, 7, 24, 10 ** 40]:
            self.refused(MIXED, [[(1, "ok"), (3, 5)], [(number, "ok")], [(2, "none"), (0, "ok")]])
            self.refused(MIXED, [[(1, "ok"), (3, 5)], [], [(2, "none"), (0, "ok"), (number, 5)]])

    def test_anything_among_the_orders(self):
        for value in no_steps() + no_numbers() + [None, 0, 1]:
            if isinstance(value, list) and value == []:
                continue
            for number in range(3):
                orders = copy.deepcopy(MIXED_ORDERS)
                orders[number] = value
                self.refused(MIXED, orders)
                self.refused(IDLE, [[], value])
        for number, order in enumerate(MIXED_ORDERS):
            orders = copy.deepcopy(MIXED_ORDERS)
            orders[number] = tuple(order)
            self.refused(MIXED, orders)
        self.refused(MIXED, tuple(MIXED_ORDERS))
        self.refused(EMPTY, ())
        self.refused(EMPTY, None)
        self.refused(EMPTY, {})

    def test_anything_in_the_orders(self):
        for value in no_steps() + no_numbers() + [None, 1]:
            for number in range(3):
                for place in range(len(MIXED_ORDERS[number]) + 1):
                    orders = copy.deepcopy(MIXED_ORDERS)
                    orders[number].insert(place, value)
                    self.refused(MIXED, orders)
        for value in no_numbers() + [None]:
            self.refused(MIXED, [[(1, "ok"), (3, value)], [], [(2, "none"), (0, "ok")]])
            self.refused(MIXED, [[(value, "ok"), (3, 5)], [], [(2, "none"), (0, "ok")]])
        # 1 and True, 5 and 5.0 are held to be the same by Python's own ==.
        self.refused(MIXED, [[(True, "ok"), (3, 5)], [], [(2, "none"), (0, "ok")]])
        self.refused(MIXED, [[(1, "ok"), (3, 5.0)], [], [(2, "none"), (0, "ok")]])
        self.refused(MIXED, [[(1, "ok"), (3, 5)], [], [(2, "none"), (False, "ok")]])
        self.refused(MIXED, [[(1, Agreeing()), (3, 5)], [], [(2, "none"), (0, "ok")]])
        self.refused(MIXED, [[[1, "ok"], [3, 5]], [], [(2, "none"), (0, "ok")]])

    def test_nothing_is_kept_or_changed(self):
        orders = copy.deepcopy(MIXED_ORDERS)
        first = joined(MIXED, orders)
        self.assertEqual(orders, MIXED_ORDERS)
        expected = list(first)
        first.clear()
        for order in orders:
            order.clear()
        self.assertEqual(joined(MIXED, copy.deepcopy(MIXED_ORDERS)), expected)
        single = [[(0, "ok"), (1, 5)]]
        joined(MIXED_A, single).append((9, 9))
        self.assertEqual(single, [[(0, "ok"), (1, 5)]])

    def test_a_tale_of_the_greatest_size(self):
        things = [(name, "counter") for name in "fedcba"]
        events, orders = [], {name: [] for name in "abcdef"}
        for turn in range(4):
            # Each turn all six hands are at work at once; each thing's deeds fall into one row.
            events += [("begin", hand, "abcdef"[(hand + turn) % 6], "add", 1) for hand in range(6)]
            events += [("end", hand, turn) for hand in reversed(range(6))]
            for hand in range(6):
                orders["abcdef"[(hand + turn) % 6]].append((6 * turn + hand, turn))
        self.assertEqual(len(self.told(make_tale(things, events), [orders[name] for name in "abcdef"])), 24)

    def test_all_orders_of_the_parts_by_chance(self):
        joined_ones = 0
        for tale in chance_tales(12, 700, 6, 3, names=["ab", "abc"]):
            found = [part_orders(tale, name) for name, kind in tale[0]]
            for orders in list(itertools.product(*found))[:40]:
                self.told(tale, list(copy.deepcopy(orders)))
                joined_ones += 1
        self.assertGreater(joined_ones, 1000)

    def test_lists_by_chance(self):
        """Of rows of the deeds, right ones and wrong ones, just the right ones are joined."""
        counts = {True: 0, False: 0}
        for tale in chance_tales(13, 60, 4, 2, names=["ab"]):
            lists = []
            for name, kind in tale[0]:
                model = Model(part(tale, name), "strict")
                numbers = numbers_of(tale, name)
                lists.append([([(numbers[number], answer) for number, answer in order], right)
                              for order, right in map(model.order_of, model.rows())])
            for rows in itertools.product(*lists):
                right = all([word for order, word in rows])
                orders = [list(order) for order, word in rows]
                counts[right] += 1
                if right:
                    self.told(tale, orders)
                else:
                    self.refused(tale, orders)
        self.assertGreater(min(counts.values()), 50, counts)


if __name__ == "__main__":
    unittest.main()
