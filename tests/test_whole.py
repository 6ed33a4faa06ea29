"""Small tales by each strictness, all orders gone through one by one, as the document's words tell them."""

import random
import unittest

from books import Book, chance_books
from letters import chance_copies_plan, chance_run
from makings import chance_maker_plans
from model import STRICTNESSES, Model, all_small_tales, chance_state, chance_tales
from plain import chance_plain_tales
from talejudge.beginnings import bad_beginning, beginning
from talejudge.copies import run_copies
from talejudge.dealings import is_verdict, judged_dealings
from talejudge.judge import judged
from talejudge.makers import all_runs, bad_runs, run_maker
from talejudge.orders import explains, has_to
from talejudge.parts import joined, numbers_of, part
from talejudge.places import all_places, first_place, is_full, nexts
from talejudge.stuck import is_stuck, stuck_paper
from talejudge.tales import deeds, make_tale
from talejudge.weaker import is_regular, turn_about
from talejudge.zones import collision


class WholeTest(unittest.TestCase):
    def look_at(self, tale):
        """Whether the tale has an order, by each strictness: the told ones beside those of the model."""
        found = []
        for strictness in STRICTNESSES:
            with self.subTest(tale=tale, strictness=strictness):
                model = Model(tale, strictness)
                self.assertEqual(has_to(tale, strictness), model.pairs)
                orders = self.look_at_orders(tale, strictness, model)
                self.look_at_places(tale, strictness, model)
                self.look_at_verdict(tale, strictness, model, orders)
                found.append(len(orders) > 0)
        return found

    def look_at_orders(self, tale, strictness, model):
        orders = []
        for row in model.rows():
            order, right = model.order_of(row)
            self.assertIs(explains(tale, strictness, order), right)
            if right:
                orders.append(order)
        return orders

    def look_at_places(self, tale, strictness, model):
        places = model.places()
        self.assertEqual(first_place(tale), places[0])
        self.assertEqual(repr(all_places(tale, strictness)), repr(places))
        for place in places:
            self.assertEqual(repr(nexts(tale, strictness, place)), repr(model.next_places(place)))
            self.assertIs(is_full(tale, place), model.is_full(place))

    def look_at_verdict(self, tale, strictness, model, orders):
        order, paper = judged(tale, strictness), stuck_paper(tale, strictness)
        self.assertEqual(order is None, paper is not None)
        if orders:
            self.assertIn(order, orders)
            self.assertIs(is_stuck(tale, strictness, model.places()), False)
        else:
            self.assertIsNone(order)
            self.assertEqual(repr(paper), repr(model.places()))
            self.assertIs(is_stuck(tale, strictness, paper), True)

    def test_no_events(self):
        for things in [[], [("a", "set")], [("b", "queue"), ("a", "cell")]]:
            self.assertEqual(self.look_at(make_tale(things, [])), [True, True, True])

    def test_tales_by_chance(self):
        verdicts = [tuple(self.look_at(tale)) for tale in chance_tales(1, 400, 4) + chance_tales(2, 300, 5, 5)]
        # Each strictness explains all that the one ahead of it does; of each sort there are some.
        counts = {verdict: verdicts.count(verdict) for verdict in set(verdicts)}
        sorts = [(True, True, True), (False, True, True), (False, False, True), (False, False, False)]
        self.assertEqual(set(counts), set(sorts))
        for verdict in sorts:
            self.assertGreater(counts[verdict], 10, counts)

    def test_all_tales_of_a_write_and_two_reads(self):
        tales = sorted(set(all_small_tales()), key=repr)
        self.assertGreater(len(tales), 400)
        for tale in tales:
            self.look_at(tale)

    def test_papers_by_chance(self):
        source = random.Random(3)
        stuck = 0
        for tale in chance_tales(4, 500, 4):
            for strictness in STRICTNESSES:
                model = Model(tale, strictness)
                # The places of a weaker strictness hold some that can't be come to by this one.
                known = Model(tale, source.choice([strictness, "bare"])).places()
                for paper in [known, [place for place in known if not model.is_full(place)],
                              source.sample(known, source.randrange(len(known) + 1)),
                              [place for place in known if source.random() < 0.9 and not model.is_full(place)],
                              known[:-1] + known[:1]]:
                    with self.subTest(tale=tale, strictness=strictness, paper=paper):
                        told = is_stuck(tale, strictness, paper)
                        self.assertIs(told, model.is_stuck(paper))
                        self.assertFalse(told and judged(tale, strictness) is not None)
                        stuck += told
        self.assertGreater(stuck, 100)

    def test_places_by_chance(self):
        source = random.Random(5)
        for tale in chance_tales(6, 200, 5):
            kinds = [kind for name, kind in tale[0]]
            for number in range(10):
                done = tuple([deed for deed in range(len(deeds(tale))) if source.random() < 0.5])
                place = (done, tuple([chance_state(source, kind) for kind in kinds]))
                for strictness in STRICTNESSES:
                    model = Model(tale, strictness)
                    self.assertEqual(repr(nexts(tale, strictness, place)), repr(model.next_places(place)))
                    self.assertIs(is_full(tale, place), model.is_full(place))


class StrictTest(unittest.TestCase):
    def is_strict(self, tale):
        """By the model's word, and by the program's, which are the same."""
        model = Model(tale, "strict")
        strict = any([model.order_of(row)[1] for row in model.rows()])
        self.assertEqual(judged(tale, "strict") is not None, strict)
        return strict


class WholeAndPartsTest(StrictTest):
    """The whole beside its parts, its beginnings and its zones."""

    def look_at_parts(self, tale, strict):
        orders = [judged(part(tale, name), "strict") for name, kind in tale[0]]
        self.assertEqual(all([order is not None for order in orders]), strict)
        if strict:
            own = [numbers_of(tale, name) for name, kind in tale[0]]
            orders = [[(numbers[number], answer) for number, answer in order] for numbers, order in zip(own, orders)]
            order = joined(tale, orders)
            self.assertIs(explains(tale, "strict", order), True)
            self.assertEqual(Model(tale, "strict").order_of([step[0] for step in order]), (order, True))
            self.assertEqual([[step for step in order if step[0] in numbers] for numbers in own], orders)

    def look_at_beginnings(self, tale, strict):
        bad = [many for many in range(len(tale[1]) + 1) if not self.is_strict(beginning(tale, many))]
        self.assertEqual(bad_beginning(tale), min(bad, default=None))
        self.assertEqual(bad == [], strict)

    def test_parts_and_beginnings_by_chance(self):
        counts = {True: 0, False: 0}
        for tale in chance_tales(7, 500, 5, names=["a", "ab", "abc"]) + chance_tales(8, 60, 6, 6, names=["ab", "abc"]):
            with self.subTest(tale=tale):
                strict = self.is_strict(tale)
                self.look_at_parts(tale, strict)
                self.look_at_beginnings(tale, strict)
                counts[strict] += 1
        self.assertGreater(min(counts.values()), 100, counts)

    def test_zones_by_chance(self):
        counts = {True: 0, False: 0}
        for tale in chance_plain_tales(9, 500, 5, [0, 1, 2, 3]) + chance_plain_tales(10, 100, 6, [0, 1, 2], 6):
            with self.subTest(tale=tale):
                strict = self.is_strict(tale)
                self.assertEqual(collision(tale) is None, strict)
                counts[strict] += 1
        self.assertGreater(min(counts.values()), 100, counts)

    def test_turns_about_by_chance(self):
        counts = {True: 0, False: 0}
        for tale in chance_plain_tales(11, 800, 6, [1], 3):
            if is_regular(tale):
                with self.subTest(tale=tale):
                    strict = self.is_strict(tale)
                    self.assertEqual(turn_about(tale) is None, strict)
                    counts[strict] += 1
        self.assertGreater(min(counts.values()), 10, counts)


class WholeRunsTest(StrictTest):
    """Runs of copies and makers, and dealings."""

    def test_runs_of_copies(self):
        source = random.Random(12)
        for number in range(250):
            plan, many = chance_copies_plan(source, 4, 6), source.choice([3, 5])
            tale = run_copies(many, plan, chance_run(source, many, plan, True, 150)[0], True)
            with self.subTest(plan=plan, tale=tale):
                self.assertIs(self.is_strict(tale), True)
                self.assertIsNone(collision(tale))

    def test_runs_of_copies_without_writing_back(self):
        source = random.Random(13)
        for number in range(250):
            plan, many = chance_copies_plan(source, 4, 6, [0]), source.choice([3, 5])
            tale = run_copies(many, plan, chance_run(source, many, plan, False, 150)[0], False)
            with self.subTest(plan=plan, tale=tale):
                self.assertIs(is_regular(tale), True)
                self.assertEqual(turn_about(tale) is None, self.is_strict(tale))

    def test_runs_of_makers_to_the_end(self):
        torn = 0
        for kind, way, plan in chance_maker_plans(14, 40, 4):
            with self.subTest(kind=kind, way=way, plan=plan):
                told = all_runs(kind, way, plan)
                bad = bad_runs(kind, way, plan)
                if len(told) < 100:
                    self.assertEqual(bad, [tale for tale in told if not self.is_strict(tale)])
                if way == "swapping":
                    self.assertEqual(bad, [])
                torn += len(bad)
        self.assertGreater(torn, 30)

    def test_runs_of_makers_by_choices(self):
        source = random.Random(15)
        for kind, way, plan in chance_maker_plans(16, 200, 5):
            choices = [source.randrange(-10, 10) for number in range(source.randrange(25))]
            tale = run_maker(kind, "swapping", plan, choices)
            with self.subTest(kind=kind, plan=plan, choices=choices):
                self.assertIs(self.is_strict(tale), True)

    def test_dealings_have_an_order_or_a_ring(self):
        counts = {"order": 0, "ring": 0}
        for dealings, versions in chance_books(17, 400, 5, 3):
            for timed in [True, False]:
                book = Book(dealings, versions, timed)
                if book.lost() is None:
                    with self.subTest(dealings=dealings, versions=versions, timed=timed):
                        orders, rings = book.orders(), book.rings()
                        self.assertNotEqual(len(orders) > 0, len(rings) > 0)
                        told = judged_dealings(dealings, versions, timed)
                        self.assertIn(told[1], orders if told[0] == "order" else rings)
                        verdicts = [("order", row) for row in orders[:9]] + [("ring", ring) for ring in rings[:9]]
                        for verdict in verdicts:
                            self.assertIs(is_verdict(dealings, versions, timed, verdict), True)
                        counts[told[0]] += 1
        self.assertGreater(min(counts.values()), 50, counts)


if __name__ == "__main__":
    unittest.main()
