import copy
import random
import unittest

from books import Book, chance_books, dealing, dealings_of
from strange import Agreeing, no_numbers, no_texts
from talejudge.dealings import is_verdict, judged_dealings, reasons
from talejudge.errors import NoDealings

ASKS = [reasons, judged_dealings]


def right_verdict(book, told):
    """Whether this is a verdict, told by going through everything."""
    if book.lost() is not None:
        return told == book.lost()
    return told[0] == "order" and told[1] in book.orders() or told[0] == "ring" and told[1] in book.rings()


class DealingsTest(unittest.TestCase):
    def told(self, rows, versions, expected, verdict):
        """Of dealings that are all at once: their reasons and the verdict, with and without time."""
        dealings = dealings_of(rows)
        for timed in [True, False]:
            with self.subTest(rows=rows, timed=timed):
                self.look_at(dealings, versions, timed, expected, verdict)

    def look_at(self, dealings, versions, timed, expected, verdict):
        self.assertEqual(repr(reasons(dealings, versions, timed)), repr(expected))
        self.assertEqual(repr(judged_dealings(dealings, versions, timed)), repr(verdict))
        self.assertIs(is_verdict(dealings, versions, timed, verdict), True)
        book = Book(dealings, versions, timed)
        self.assertEqual(book.reasons(), expected)
        self.assertEqual(book.lost() or (book.orders()[:1] or ["ring"])[0],
                         verdict[1] if verdict[0] == "order" else verdict if verdict[0] == "lost" else "ring")


class ReasonsTest(DealingsTest):
    def test_none(self):
        self.told([""], {}, [], ("order", [0]))
        self.told(["", "", ""], {}, [], ("order", [0, 1, 2]))
        self.told(["rx0 ry0", "rx0"], {}, [], ("order", [0, 1]))
        self.told(["wx1", "wy1"], {"x": [1], "y": [1]}, [], ("order", [0, 1]))

    def test_after(self):
        self.told(["wx1", "wx2"], {"x": [1, 2]}, [(0, 1, "after", "x")], ("order", [0, 1]))
        self.told(["wx1", "wx2"], {"x": [2, 1]}, [(1, 0, "after", "x")], ("order", [1, 0]))
        # The next version alone, not those behind it.
        self.told(["wx1", "wx2", "wx3"], {"x": [3, 1, 2]}, [(0, 1, "after", "x"), (2, 0, "after", "x")],
                  ("order", [2, 0, 1]))
        # None from a dealing to itself.
        self.told(["wx1 wx2", "wx3"], {"x": [1, 2, 3]}, [(0, 1, "after", "x")], ("order", [0, 1]))
        self.told(["wx1 wx2"], {"x": [1, 2]}, [], ("order", [0]))

    def test_own_writes_apart(self):
        # Between a dealing's two versions stands another's: each is behind the other.
        self.told(["wx1 wx2", "wx3"], {"x": [1, 3, 2]}, [(0, 1, "after", "x"), (1, 0, "after", "x")],
                  ("ring", [(0, 1, "after", "x"), (1, 0, "after", "x")]))

    def test_seen(self):
        self.told(["wx1", "rx1"], {"x": [1]}, [(0, 1, "seen", "x")], ("order", [0, 1]))
        self.told(["rx1", "wx1"], {"x": [1]}, [(1, 0, "seen", "x")], ("order", [1, 0]))
        # Each once, though it is read twice.
        self.told(["wx1", "rx1 rx1"], {"x": [1]}, [(0, 1, "seen", "x")], ("order", [0, 1]))
        self.told(["wx1 wy1", "ry1 rx1"], {"x": [1], "y": [1]}, [(0, 1, "seen", "x"), (0, 1, "seen", "y")],
                  ("order", [0, 1]))
        # The worth is told apart by its name.
        self.told(["wx1", "wy1", "ry1"], {"x": [1], "y": [1]}, [(1, 2, "seen", "y")], ("order", [0, 1, 2]))

    def test_missed(self):
        self.told(["wx1", "rx0"], {"x": [1]}, [(1, 0, "missed", "x")], ("order", [1, 0]))
        self.told(["wx1", "wx2", "rx1"], {"x": [1, 2]},
                  [(0, 1, "after", "x"), (0, 2, "seen", "x"), (2, 1, "missed", "x")], ("order", [0, 2, 1]))
        # The next version alone; of the last one none.
        self.told(["wx1", "wx2", "rx0"], {"x": [1, 2]}, [(0, 1, "after", "x"), (2, 0, "missed", "x")],
                  ("order", [2, 0, 1]))
        self.told(["wx1", "rx1"], {"x": [1]}, [(0, 1, "seen", "x")], ("order", [0, 1]))
        # 0 of a name that nobody writes; of another name than is written.
        self.told(["wx1", "ry0"], {"x": [1]}, [], ("order", [0, 1]))

    def test_reads_ahead_of_own_writes(self):
        # The own write is the next version: nothing is missed.
        self.told(["rx0 wx1"], {"x": [1]}, [], ("order", [0]))
        self.told(["wx1", "rx1 wx2"], {"x": [1, 2]}, [(0, 1, "after", "x"), (0, 1, "seen", "x")], ("order", [0, 1]))
        self.told(["wx1", "rx0 wx2"], {"x": [1, 2]}, [(0, 1, "after", "x"), (1, 0, "missed", "x")],
                  ("ring", [(0, 1, "after", "x"), (1, 0, "missed", "x")]))

    def test_reads_behind_own_writes(self):
        # These tell no reasons, whatever they read.
        self.told(["wx1 rx1", "wx2"], {"x": [1, 2]}, [(0, 1, "after", "x")], ("order", [0, 1]))
        self.told(["wx1 rx2", "wx2"], {"x": [1, 2]}, [(0, 1, "after", "x")], ("lost", 0, 1))
        self.told(["wx1 rx0", "wx2"], {"x": [2, 1]}, [(1, 0, "after", "x")], ("lost", 0, 1))
        # Those of another name do.
        self.told(["wx1 ry2", "wy2"], {"x": [1], "y": [2]}, [(1, 0, "seen", "y")], ("order", [1, 0]))

    def test_an_own_worth_ahead_of_its_write(self):
        # Not seen, but missed, as others are.
        self.told(["rx1 wx1", "wx2"], {"x": [1, 2]}, [(0, 1, "after", "x"), (0, 1, "missed", "x")], ("lost", 0, 0))
        self.told(["rx1 wx1"], {"x": [1]}, [], ("lost", 0, 0))
        self.told(["rx1 wx1 wx3", "wx2"], {"x": [1, 3, 2]}, [(0, 1, "after", "x")], ("lost", 0, 0))

    def test_a_worth_in_the_middle(self):
        # Seen is what the dealing wrote over: what it wrote then is missed.
        self.told(["wx1 wx2", "rx1"], {"x": [1, 2]}, [(0, 1, "seen", "x"), (1, 0, "missed", "x")],
                  ("ring", [(0, 1, "seen", "x"), (1, 0, "missed", "x")]))

    def test_time(self):
        dealings = [dealing("", 5, 6), dealing("", 0, 4), dealing("", 6, 9), dealing("", 3, 5)]
        expected = [(1, 0, "time", None), (1, 2, "time", None), (3, 2, "time", None)]
        self.look_at(dealings, {}, True, expected, ("order", [1, 0, 3, 2]))
        self.look_at(dealings, {}, False, [], ("order", [0, 1, 2, 3]))

    def test_time_and_reads(self):
        # The read misses what was written ahead of its begin.
        dealings = [dealing("wx1", 0, 1), dealing("rx0", 2, 3)]
        self.look_at(dealings, {"x": [1]}, False, [(1, 0, "missed", "x")], ("order", [1, 0]))
        self.look_at(dealings, {"x": [1]}, True, [(0, 1, "time", None), (1, 0, "missed", "x")],
                     ("ring", [(0, 1, "time", None), (1, 0, "missed", "x")]))
        # Where they touch, neither is ahead.
        touching = [dealing("wx1", 0, 2), dealing("rx0", 2, 3)]
        self.look_at(touching, {"x": [1]}, True, [(1, 0, "missed", "x")], ("order", [1, 0]))

    def test_sorted(self):
        dealings = [dealing("wx1 wy1", 0, 1), dealing("rx1 ry0 wx2", 5, 6), dealing("rx0", 9, 10)]
        self.look_at(dealings, {"y": [1], "x": [1, 2]}, True,
                     [(0, 1, "after", "x"), (0, 1, "seen", "x"), (0, 1, "time", None), (0, 2, "time", None),
                      (1, 0, "missed", "y"), (1, 2, "time", None), (2, 0, "missed", "x")],
                     judged_dealings(dealings, {"x": [1, 2], "y": [1]}, True))

    def test_great_numbers(self):
        dealings = [(0, 10 ** 50, (("write", "abcdefgh", 10 ** 9),)),
                    (10 ** 50 + 1, 10 ** 60, (("read", "abcdefgh", 10 ** 9), ("write", "abcdefgh", -10 ** 9)))]
        self.look_at(dealings, {"abcdefgh": [10 ** 9, -10 ** 9]}, True,
                     [(0, 1, "after", "abcdefgh"), (0, 1, "seen", "abcdefgh"), (0, 1, "time", None)], ("order", [0, 1]))


class VerdictTest(DealingsTest):
    def test_the_least_first(self):
        # 0 has to be behind 3; of the others the least one is next, and 0 at once behind 3.
        dealings = dealings_of(["rx1", "", "", "wx1", ""])
        self.assertEqual(judged_dealings(dealings, {"x": [1]}, True), ("order", [1, 2, 3, 0, 4]))
        # 1 behind 3, 0 behind 2, 4 behind 1.
        rows = ["rx1", "ry1 wz1", "wx1", "wy1", "rz1"]
        self.assertEqual(judged_dealings(dealings_of(rows), {"x": [1], "y": [1], "z": [1]}, True),
                         ("order", [2, 0, 3, 1, 4]))

    def test_twelve(self):
        rows = [f"rx{number + 1} wx{number}" if number < 12 else "wx12" for number in range(1, 13)]
        versions = {"x": list(range(12, 0, -1))}
        self.assertEqual(judged_dealings(dealings_of(rows), versions, False), ("order", list(range(11, -1, -1))))
        # Each reads what the next one writes: a ring of all.
        rows = [f"r{'abcdefghijkl'[(number + 1) % 12]}1 w{'abcdefghijkl'[number]}1" for number in range(12)]
        versions = {name: [1] for name in "abcdefghijkl"}
        word, ring = judged_dealings(dealings_of(rows), versions, False)
        self.assertEqual(word, "ring")
        self.assertEqual(sorted([reason[0] for reason in ring]), list(range(12)))
        self.assertIs(is_verdict(dealings_of(rows), versions, False, (word, ring)), True)

    def test_rings(self):
        # Two dealings each miss the other's write.
        self.told(["rx0 wy1", "ry0 wx1"], {"x": [1], "y": [1]}, [(0, 1, "missed", "x"), (1, 0, "missed", "y")],
                  ("ring", [(0, 1, "missed", "x"), (1, 0, "missed", "y")]))
        # A write that was lost: both read 0, and write.
        self.told(["rx0 wx1", "rx0 wx2"], {"x": [1, 2]}, [(0, 1, "after", "x"), (1, 0, "missed", "x")],
                  ("ring", [(0, 1, "after", "x"), (1, 0, "missed", "x")]))
        # Dealings ahead of the ring, behind it and beside it are not in it.
        dealings = dealings_of(["ra1", "wb1 rx0 wy1", "rb1 ry0 wx1 wa1", "", "wc1", "rc1"])
        versions = {"a": [1], "b": [1], "c": [1], "x": [1], "y": [1]}
        word, ring = judged_dealings(dealings, versions, True)
        self.assertEqual(word, "ring")
        self.assertEqual(sorted([reason[0] for reason in ring]), [1, 2])
        self.assertIs(is_verdict(dealings, versions, True, (word, ring)), True)

    def test_lost_goes_ahead(self):
        # Ahead of a ring, and of an order.
        self.told(["rx0 wy1", "ry0 wx1", "rz5"], {"x": [1], "y": [1]},
                  [(0, 1, "missed", "x"), (1, 0, "missed", "y")], ("lost", 2, 0))
        self.told(["", "wx1 rx1 rx2"], {"x": [1]}, [], ("lost", 1, 2))

    def test_the_first_lost(self):
        rows = ["rx0 wx3", "rx3 ry0 ry4 rx9", "rx7"]
        self.assertEqual(judged_dealings(dealings_of(rows), {"x": [3]}, True), ("lost", 1, 2))
        self.assertEqual(judged_dealings(dealings_of(rows[::-1]), {"x": [3]}, True), ("lost", 0, 0))

    def test_lost_of_each_kind(self):
        for row, number in [
                ("rx5", 0), ("ry1", 0), ("rx1 rx2 rx3", 2),                     # what nobody writes, or of another name
                ("wx9 rx1", 1), ("wx9 rx0", 1), ("wx8 wx9 rx8", 2), ("wx8 rx8 wx9 rx9 rx8", 4),   # written otherwise
                ("rx9 wx9", 0), ("rx1 rx9 wx8 wx9", 1), ("wx8 rx9 wx9", 1)]:    # ahead of its write
            versions = {"x": [1, 2] + [worth for worth in [8, 9] if f"wx{worth}" in row]}
            with self.subTest(row):
                self.assertEqual(judged_dealings(dealings_of(["wx1 wx2", row]), versions, False), ("lost", 1, number))
        for row in ["rx0", "rx1", "rx2 rx1", "rx0 wx9 rx9 rx9", "wx8 rx8 wx9 rx9", "ry0", "wx9 ry0 rx9"]:
            versions = {"x": [1, 2] + [worth for worth in [8, 9] if f"wx{worth}" in row]}
            with self.subTest(row):
                self.assertNotEqual(judged_dealings(dealings_of(["wx1 wx2", row]), versions, False)[0], "lost")


class CheckerTest(unittest.TestCase):
    def checked(self, dealings, versions, timed, told, right):
        with self.subTest(told=told):
            self.assertIs(is_verdict(dealings, versions, timed, told), right)

    def test_any_order(self):
        dealings = dealings_of(["rx1", "", "wx1"])
        for numbers in [[2, 0, 1], [2, 1, 0], [1, 2, 0]]:
            self.checked(dealings, {"x": [1]}, True, ("order", numbers), True)
        for numbers in [[0, 1, 2], [0, 2, 1], [1, 0, 2], [], [2], [2, 0], [2, 1, 0, 0], [2, 2, 0], [3, 2, 1, 0],
                        [2, -1, 0], [2, 0, 1, 3], [-1, -3, -2], (2, 0, 1), "201", None, {2: 0, 0: 0, 1: 0}]:
            self.checked(dealings, {"x": [1]}, True, ("order", numbers), False)
        for told in [("ring", []), ("ring", [(2, 0, "seen", "x")]), ("lost", 0, 0), ("ring", [2, 0, 1])]:
            self.checked(dealings, {"x": [1]}, True, told, False)

    def test_time_in_orders(self):
        dealings = [dealing("", 5, 6), dealing("", 1, 2)]
        self.checked(dealings, {}, True, ("order", [1, 0]), True)
        self.checked(dealings, {}, True, ("order", [0, 1]), False)
        self.checked(dealings, {}, False, ("order", [0, 1]), True)

    def test_any_ring(self):
        dealings = dealings_of(["rx0 wy1", "ry0 wx1 wz2", "rz2 rx0", ""])
        versions = {"x": [1], "y": [1], "z": [2]}
        known = [(0, 1, "missed", "x"), (1, 0, "missed", "y"), (1, 2, "seen", "z"), (2, 1, "missed", "x")]
        self.assertEqual(reasons(dealings, versions, True), known)
        for ring in [[known[0], known[1]], [known[1], known[0]], [known[2], known[3]], [known[3], known[2]]]:
            self.checked(dealings, versions, True, ("ring", ring), True)
        for ring in [[], known[:1], [known[0], known[0]], [known[0], known[2]], known, [known[0], known[2], known[3]],
                     # A dealing twice.
                     [known[0], known[2], known[3], known[1]], [known[0], known[1], known[0], known[1]],
                     # No reasons.
                     [(0, 1, "missed", "x"), (1, 0, "missed", "x")], [(0, 1, "seen", "x"), (1, 0, "missed", "y")],
                     [(0, 1, "missed", None), (1, 0, "missed", "y")], [(0, 3, "time", None), (3, 0, "time", None)],
                     [(0, 0, "missed", "x")], tuple(known[:2]), dict.fromkeys(known[:2]), None, "ring"]:
            self.checked(dealings, versions, True, ("ring", ring), False)
        for told in [("order", [0, 1, 2, 3]), ("lost", 0, 0), ("order", []), ("Ring", known[:2]), ("", known[:2]),
                     ("order", known[:2]), ("lost", known[:2]), (Agreeing(), known[:2])]:
            self.checked(dealings, versions, True, told, False)

    def test_time_in_rings(self):
        dealings = [dealing("wx1", 0, 1), dealing("rx0", 2, 3)]
        ring = [(0, 1, "time", None), (1, 0, "missed", "x")]
        self.checked(dealings, {"x": [1]}, True, ("ring", ring), True)
        self.checked(dealings, {"x": [1]}, True, ("ring", ring[::-1]), True)
        self.checked(dealings, {"x": [1]}, False, ("ring", ring), False)

    def test_just_the_first_lost(self):
        dealings = dealings_of(["rx0", "rx5 rx6", "rx7"])
        self.checked(dealings, {}, True, ("lost", 1, 0), True)
        for told in [("lost", 1, 1), ("lost", 2, 0), ("lost", 0, 0), ("lost", 0, 1), ("lost", 1), ("lost", 1, 0, 0),
                     ("order", [0, 1, 2]), ("ring", []), ("Lost", 1, 0), ("lost", True, 0), ("lost", 1, False),
                     ("lost", 1.0, 0), ("lost", "1", "0"), ("lost", Agreeing(), 0), (Agreeing(), 1, 0), ["lost", 1, 0],
                     ("lost", (1, 0)), ("lost", None, None)]:
            self.checked(dealings, {}, True, told, False)

    def test_anything(self):
        found = [(dealings_of(["", "wx1"]), {"x": [1]}), (dealings_of(["rx5", ""]), {}),
                 (dealings_of(["rx0 wy1", "ry0 wx1"]), {"x": [1], "y": [1]})]
        strange = no_numbers() + no_texts() + [
            ("order",), ("order", [0, 1], None), ("Order", [0, 1]), (None, [0, 1]), (["order"], [0, 1]),
            (Agreeing(), [0, 1]), ("order", Agreeing()), ("order", [0, Agreeing()]), ("order", [False, True]),
            ("order", [0.0, 1.0]), ("order", ["0", "1"]), ("order", [[], {}]), ["order", [0, 1]], "order 0 1",
            ("ring", Agreeing()), ("ring", [Agreeing()]), ("ring", [Agreeing(), Agreeing()]), ("ring", [0, 1]),
            ("ring", [(Agreeing(), 0, "missed", "x")]), ("ring", [(0, 1, "missed", "x"), (True, False, "missed", "y")]),
            ("ring", [(0, 1, "missed", "x"), (1, 0, Agreeing(), "y")]),
            ("ring", [(0, 1, "missed", "x"), (1, 0, "missed", Agreeing())]),
            ("ring", [(0, 1, "missed", "x"), (1.0, 0.0, "missed", "y")]),
            ("ring", [(0, 1, "missed", "x"), [1, 0, "missed", "y"]]), ("ring", [(0, 1, "missed", "x"), (1, 0, "missed")]),
            ("ring", [(0, 1, "missed", "x"), (1, 0, "missed", "y", 0)]), ("ring", [(0, 1), (1, 0)]),
            ("lost", 0, Agreeing()), ("lost", 0, None), ("lost", 0, [0]), (0, 0, 0), (None, None), (None,) * 3]
        for dealings, versions in found:
            for told in strange:
                self.checked(dealings, versions, True, told, False)
                self.checked(dealings, versions, False, told, False)


class RefusedTest(unittest.TestCase):
    def refused(self, dealings, versions):
        with self.subTest(dealings=dealings, versions=versions):
            for timed in [True, False]:
                for ask in ASKS:
                    self.assertRaises(NoDealings, ask, dealings, versions, timed)
                for told in [("order", [0]), None, ("lost", 0, 0)]:
                    self.assertRaises(NoDealings, is_verdict, dealings, versions, timed, told)

    def test_how_many(self):
        self.refused([], {})
        self.refused([dealing("")] * 13, {})
        for many in [1, 12]:
            self.assertEqual(judged_dealings([dealing("")] * many, {}, True), ("order", list(range(many))))

    def test_no_lists(self):
        for dealings in [None, 0, True, "", "dealings", (), (dealing(""),), {}, {0: dealing("")}, {dealing("")}, object(),
                         Agreeing(), list]:
            self.refused(dealings, {})

    def test_no_dicts(self):
        for versions in [None, 0, True, "", "x", (), [], [("x", [1])], (("x", [1]),), {"x"}, object(), Agreeing(), dict]:
            self.refused([dealing("")], versions)
            self.refused([dealing("wx1")], versions)

    def test_no_dealings(self):
        strange = [None, 0, True, "", "rx1", [], [0, 1, ()], (), (0,), (0, 1), (0, 1, (), ()), (0, 1, []), (0, 1, None),
                   (0, 1, {}), (0, 1, "read"), (1, 1, ()), (2, 1, ()), (-1, 1, ()), (-2, -1, ()), (None, 1, ()),
                   (0, None, ()), (Agreeing(), 1, ()), (0, Agreeing(), ()), (0, 1, Agreeing()), Agreeing(), object(), dict]
        strange += [(number, 1, ()) for number in no_numbers()] + [(0, number, ()) for number in no_numbers()]
        for value in strange:
            self.refused([value], {})
            self.refused([dealing("rx0"), value], {})

    def test_no_parts(self):
        strange = [None, 0, True, "", "read", [], ["read", "x", 0], (), ("read",), ("read", "x"), ("read", "x", 0, 0),
                   ("Read", "x", 0), ("read ", "x", 0), ("add", "x", 0), ("swap", "x", 0), ("read", "", 0),
                   ("read", "X", 0), ("read", "x1", 0), ("read", "abcdefghi", 0), ("read", "x\n", 0), ("read", "x", None),
                   ("read", "x", 10 ** 9 + 1), ("read", "x", -10 ** 9 - 1), ("read", "x", Agreeing()),
                   (Agreeing(), "x", 0), ("read", Agreeing(), 0), Agreeing(), object(), {"read": "x"}, ("read", "\u00e4", 0)]
        strange += [("read", "x", worth) for worth in no_numbers()] + [("read", name, 0) for name in no_texts()]
        strange += [(verb, "x", 0) for verb in no_texts()]
        for part in strange:
            self.refused([(0, 1, (part,))], {})
            self.refused([dealing("rx0"), (0, 1, (("read", "x", 0), part))], {})
        # Nor where the versions would be those.
        for verb in no_texts() + ["Write", "write ", "", "add"]:
            self.refused([(0, 1, ((verb, "x", 5),))], {"x": [5]})
        for name in ["", "X", "x1", "abcdefghi"]:
            self.refused([(0, 1, (("write", name, 5),))], {name: [5]})
        for worth in [True, 1.0, "1", None, 10 ** 9 + 1, -10 ** 9 - 1]:
            self.refused([(0, 1, (("write", "x", worth),))], {"x": [worth]})

    def test_worths_that_are_written(self):
        self.refused(dealings_of(["wx0"]), {"x": [0]})
        self.refused(dealings_of(["wx0"]), {"x": []})
        self.refused(dealings_of(["wx0 wx1"]), {"x": [0, 1]})
        self.refused(dealings_of(["wx1 wx1"]), {"x": [1, 1]})
        self.refused(dealings_of(["wx1 wx1"]), {"x": [1]})
        self.refused(dealings_of(["wx1", "wx1"]), {"x": [1, 1]})
        self.refused(dealings_of(["wx1", "wx1"]), {"x": [1]})
        self.refused(dealings_of(["wx1 wx2", "wx2"]), {"x": [1, 2]})
        # To two names one worth may be written.
        self.assertEqual(judged_dealings(dealings_of(["wx1 wy1"]), {"x": [1], "y": [1]}, True), ("order", [0]))

    def test_versions_that_are_not_those(self):
        dealings = dealings_of(["wx1 wx2", "wx3 ry0 rz0"])
        for row in [[], [1], [1, 2], [1, 2, 3, 4], [1, 2, 4], [0, 1, 2, 3], [1, 2, 3, 3], [1, 1, 2, 3], [2, 1, 3],
                    [2, 3, 1], [3, 2, 1], [1, 2, 3, None], [None], [1, 2, 3.0], [True, 2, 3], [1, 2, "3"], [[1, 2, 3]],
                    (1, 2, 3), {1: 0, 2: 0, 3: 0}, "123", None, 1, True, Agreeing(), [Agreeing(), 2, 3], [1, 2, Agreeing()],
                    [1, 2, [3]], object(), list]:
            self.refused(dealings, {"x": row})
        for row in [[1, 2, 3], [1, 3, 2], [3, 1, 2]]:
            self.assertIn(judged_dealings(dealings, {"x": row}, True)[0], ["order", "ring"])

    def test_names_of_versions(self):
        dealings = dealings_of(["wx1 ry0", "wz1"])
        right = {"x": [1], "z": [1]}
        self.assertEqual(judged_dealings(dealings, right, True), ("order", [0, 1]))
        self.refused(dealings, {})
        self.refused(dealings, {"x": [1]})
        self.refused(dealings, {"x": [1], "y": [1]})
        for name in ["y", "w", "", "X", "abcdefghi", "x ", None, 0, True, 1.5, (), ("x",), object(), Agreeing(), str]:
            self.refused(dealings, {**right, name: []})
            self.refused(dealings, {**right, name: [1]})
            self.refused(dealings, {"x": [1], name: [1]})


class ManyDealingsTest(unittest.TestCase):
    def look_at(self, dealings, versions, timed):
        book = Book(dealings, versions, timed)
        handed = copy.deepcopy((dealings, versions))
        told = judged_dealings(dealings, versions, timed)
        self.assertEqual(repr(reasons(dealings, versions, timed)), repr(book.reasons()))
        self.assertIs(is_verdict(dealings, versions, timed, told), True)
        self.assertTrue(right_verdict(book, told))
        if told[0] == "order":
            self.assertEqual(told[1], min(book.orders()))
        self.assertEqual((dealings, versions), handed)
        return told, book

    def test_by_chance(self):
        counts = {}
        for dealings, versions in chance_books(71, 900, 5, 4):
            for timed in [True, False]:
                with self.subTest(dealings=dealings, versions=versions, timed=timed):
                    told, book = self.look_at(dealings, versions, timed)
                    counts[told[0]] = counts.get(told[0], 0) + 1
        self.assertEqual(sorted(counts), ["lost", "order", "ring"])
        self.assertGreater(min(counts.values()), 100, counts)

    def test_checker_by_chance(self):
        source = random.Random(72)
        counts = {True: 0, False: 0}
        for dealings, versions in chance_books(73, 300, 4, 4):
            book = Book(dealings, versions, source.random() < 0.5)
            known = book.reasons()
            for told in self.verdicts(source, book, known):
                with self.subTest(dealings=dealings, versions=versions, timed=book.timed, told=told):
                    right = bool(right_verdict(book, told))
                    self.assertIs(is_verdict(dealings, versions, book.timed, told), right)
                    counts[right] += 1
        self.assertGreater(min(counts.values()), 300, counts)

    def verdicts(self, source, book, known):
        many = len(book.dealings)
        found = [("order", row) for row in book.orders()[:5]] + [("ring", ring) for ring in book.rings()[:5]]
        found += [("order", source.sample(range(many), many)) for number in range(3)]
        found += [("ring", source.sample(known, min(len(known), source.randrange(4)))) for number in range(3)]
        return found + [("lost", source.randrange(many), source.randrange(4)), book.lost() or ("lost", 0, 0)]

    def test_lists_are_the_askers_own(self):
        dealings, versions = dealings_of(["rx0 wy1", "ry0 wx1"]), {"x": [1], "y": [1]}
        first = reasons(dealings, versions, True)
        ring = judged_dealings(dealings, versions, True)[1]
        handed = copy.deepcopy((dealings, versions))
        for told in [first, ring]:
            told.clear()
        self.assertEqual((dealings, versions), handed)
        self.assertEqual(len(reasons(dealings, versions, True)), 2)
        self.assertEqual(len(judged_dealings(dealings, versions, True)[1]), 2)
        judged_dealings(dealings[:1], {"y": [1]}, True)[1].clear()
        self.assertEqual(judged_dealings(dealings[:1], {"y": [1]}, True), ("order", [0]))


if __name__ == "__main__":
    unittest.main()
