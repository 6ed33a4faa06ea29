import unittest

from model import Model
from plain import all_plain_tales, chance_plain_tales, not_plain, register_tale
from talejudge.errors import NotPlain
from talejudge.judge import judged
from talejudge.tales import make_tale
from talejudge.zones import collision, zones

WRITES = [("write", 1), ("write", 2)]
READ = ("read", None)


def model_zones(tale):
    """Of each worth the begins and ends that count, taken from the events one by one."""
    begins, ends, now = {0: [-2]}, {0: [-1]}, {}
    reads = []
    for place, event in enumerate(tale[1]):
        if event[0] == "begin":
            now[event[1]] = (place, event[4])
            if event[3] == "write":
                begins.setdefault(event[4], []).append(place)
        elif event[2] == "ok":
            ends.setdefault(now[event[1]][1], []).append(place)
        else:
            reads.append((event[2], now[event[1]][0], place))
    written = list(begins)
    for worth, begin, end in reads:
        begins.setdefault(worth, []).append(begin)
        ends.setdefault(worth, []).append(end)
    found = []
    for worth in written:
        if worth in ends:
            least, greatest = min(ends[worth]), max(begins[worth])
            kind = "on" if least < greatest else "in"
            found.append((worth, *sorted([least, greatest]), kind))
    return sorted(found, key=lambda zone: zone[1])


def model_pairs(found, kind):
    """All pairs of zones that collide so, each with the lows by which the first one is told."""
    pairs = []
    for worth, low, high, own in found:
        for other, other_low, other_high, others in found:
            overlap = low < other_high and other_low < high
            if kind == "on" and own == others == "on" and worth != other and low < other_low and overlap:
                pairs.append((low, other_low, worth, other))
            if kind == "in" and own == "in" and others == "on":
                if all([other_low < moment < other_high for moment in (low, high)]):
                    pairs.append((low, other_low, worth, other))
    return sorted(pairs)


def model_lost(tale):
    number, numbers, begun, lost = 0, {}, {0}, []
    for event in tale[1]:
        if event[0] == "begin":
            numbers[event[1]] = number
            number += 1
            if event[3] == "write":
                begun.add(event[4])
        # What has not begun to be written by now is written by nobody, or too late.
        elif event[2] != "ok" and event[2] not in begun:
            lost.append(numbers[event[1]])
    return min(lost, default=None)


def model_collision(tale):
    if model_lost(tale) is not None:
        return ("lost", model_lost(tale))
    for kind in ["on", "in"]:
        pairs = model_pairs(model_zones(tale), kind)
        if pairs:
            return (kind, *pairs[0][2:])
    return None


class ZonesTest(unittest.TestCase):
    def told(self, words, *expected):
        with self.subTest(words):
            self.assertEqual(repr(zones(register_tale(words))), repr(list(expected)))

    def test_of_0(self):
        # Its write is ended ahead of all: it counts though nobody reads it.
        self.told("", (0, -2, -1, "in"))
        self.told("0r 0:0", (0, -1, 0, "on"))
        self.told("0r 1r 0:0 1:0 1r", (0, -1, 1, "on"))
        self.told("0r 0:0 0r 0:0", (0, -1, 2, "on"))

    def test_writes_alone(self):
        self.told("0w5 0.", (0, -2, -1, "in"), (5, 0, 1, "in"))
        self.told("0w5 1w6 0. 1.", (0, -2, -1, "in"), (5, 0, 2, "in"), (6, 1, 3, "in"))

    def test_reads_behind_and_beside_the_write(self):
        self.told("0w5 0. 1r 1:5", (0, -2, -1, "in"), (5, 1, 2, "on"))
        self.told("0w5 1r 0. 1:5", (0, -2, -1, "in"), (5, 1, 2, "in"))
        self.told("0w5 1r 1:5 0.", (0, -2, -1, "in"), (5, 1, 2, "in"))
        self.told("1r 0w5 1:5 0.", (0, -2, -1, "in"), (5, 1, 2, "in"))
        self.told("0w5 1r 1:5 1r 1:5 0.", (0, -2, -1, "in"), (5, 2, 3, "on"))
        self.told("0w5 0. 1r 2r 1:5 3r 3:5 2:5", (0, -2, -1, "in"), (5, 1, 5, "on"))

    def test_a_read_ahead_of_the_write(self):
        self.told("1r 1:5 0w5 0.", (0, -2, -1, "in"), (5, 1, 2, "on"))

    def test_open_writes(self):
        self.told("0w5", (0, -2, -1, "in"))
        self.told("0w5 1r", (0, -2, -1, "in"))
        self.told("0w5 1r 1:5", (0, -2, -1, "in"), (5, 1, 2, "in"))
        self.told("1r 0w5 1:5", (0, -2, -1, "in"), (5, 1, 2, "in"))
        self.told("0w5 1r 1:5 1r 1:5", (0, -2, -1, "in"), (5, 2, 3, "on"))
        self.told("1r 1:5 0w5", (0, -2, -1, "in"), (5, 1, 2, "on"))

    def test_open_reads_count_nowhere(self):
        self.told("0r", (0, -2, -1, "in"))
        self.told("0w5 0. 1r", (0, -2, -1, "in"), (5, 0, 1, "in"))

    def test_worths_that_nobody_writes(self):
        self.told("0r 0:7", (0, -2, -1, "in"))
        self.told("0w5 1r 1:7 0. 1r 1:1000000000000 2r 2:-7", (0, -2, -1, "in"), (5, 0, 3, "in"))

    def test_by_low(self):
        # 9 begins ahead of 3, and 3 ahead of 4; but 9's zone is low only at its end.
        self.told("0w9 1w3 2w4 1. 2. 0. 3r 3:9", (0, -2, -1, "in"), (3, 1, 3, "in"), (4, 2, 4, "in"), (9, 5, 6, "on"))
        self.told("0w-9 1w3 1. 2r 2:3 2r 2:0", (0, -1, 5, "on"), (3, 2, 3, "on"))

    def test_other_names(self):
        tale = make_tale([("name", "register")], [("begin", 5, "name", "write", -10 ** 9), ("end", 5, "ok")])
        self.assertEqual(zones(tale), [(0, -2, -1, "in"), (-10 ** 9, 0, 1, "in")])

    def test_told_anew_each_time(self):
        tale = register_tale("0w5 0.")
        zones(tale).clear()
        self.assertEqual(len(zones(tale)), 2)

    def test_not_plain(self):
        for tale in not_plain():
            with self.subTest(tale=tale):
                self.assertRaises(NotPlain, zones, tale)
                self.assertRaises(NotPlain, collision, tale)


class CollisionTest(unittest.TestCase):
    def told(self, words, expected):
        with self.subTest(words):
            tale = register_tale(words)
            self.assertEqual(repr(collision(tale)), repr(expected))
            self.assertEqual(repr(model_collision(tale)), repr(expected))
            self.assertEqual(judged(tale, "strict") is None, expected is not None)

    def test_none(self):
        for words in ["", "0r", "0w5", "0w5 0.", "0r 0:0", "0w5 1r 1:0 0. 1r 1:5", "0w5 1r 1:5", "0w5 1w6 0. 1. 2r 2:5",
                      "0w5 1w6 1. 2r 2:6 2r 2:5 0.", "0r 1w5 0:5", "0w5 0. 1w6 2r 2:6 2r 2:6"]:
            self.told(words, None)

    def test_lost_as_nobody_writes_it(self):
        self.told("0r 0:5", ("lost", 0))
        self.told("0w4 0. 1r 1:5", ("lost", 1))
        self.told("0w4 1r 0. 1:-4", ("lost", 1))
        self.told("0r 1w5 1. 0:1000000000000", ("lost", 0))

    def test_lost_as_it_ended_too_soon(self):
        self.told("0r 0:5 1w5", ("lost", 0))
        self.told("0r 0:5 1w5 1.", ("lost", 0))
        self.told("1w4 1. 0r 0:5 1w5 2r 1. 2:5", ("lost", 1))
        # Begun ahead of the write, but ended within it: that may be.
        self.told("0r 1w5 0:5 1.", None)

    def test_the_least_one_is_lost(self):
        self.told("0r 1r 1:5 0:6", ("lost", 0))
        self.told("0r 1r 0:0 1:6 0r 0:7", ("lost", 1))
        self.told("0r 0:5 0r 0:9 1w5", ("lost", 0))
        self.told("0r 1r 1:9 0:5 2w5", ("lost", 0))
        self.told("0w1 1r 1:1 2r 3r 3:9 2:8", ("lost", 2))

    def test_open_reads_are_not_lost(self):
        self.told("0r 1r 1:5", ("lost", 1))
        self.told("0r 1r 1:0", None)

    def test_on(self):
        self.told("0w1 0. 1w2 1. 2r 2:1 2r 2:2", ("on", 1, 2))
        self.told("1w2 1. 0w1 0. 2r 2:2 2r 2:1", ("on", 2, 1))
        # At once, and read one after the other, then back again.
        self.told("0w1 1w2 2r 2:1 2r 2:2 2r 2:1 0. 1.", ("in", 2, 1))
        self.told("0w1 1w2 2r 2:1 2r 2:2 2r 2:1 2r 2:2", ("on", 1, 2))
        self.told("0w1 0. 2r 2:1 2r 2:0", ("on", 0, 1))

    def test_on_side_by_side(self):
        self.told("0w1 1w2 2r 2:1 2r 2:1 2r 2:2 2r 2:2 0. 1.", None)

    def test_the_first_pair_of_kind_on(self):
        # 1, 2 and 3 overlap, each with each; by low they are 3, 1, 2.
        self.told("0w3 0. 1w1 1. 2w2 2. 3r 3:2 3r 3:1 3r 3:3", ("on", 3, 1))
        # 3 stands apart; 1 and 2 overlap.
        self.told("0w3 0. 3r 3:3 1w1 1. 2w2 2. 3r 3:2 3r 3:1", ("on", 1, 2))
        # 4 overlaps 1 and 2, which follow on each other: 1 is met first.
        self.told("0w4 0. 1w1 1. 2r 2:1 1w2 1. 2r 2:2 2r 2:4", ("on", 4, 1))

    def test_in(self):
        self.told("0w1 0. 1w2 1. 2r 2:1", ("in", 2, 1))
        self.told("0w1 0. 2r 2:0", ("in", 1, 0))
        # Only a part of it lies within.
        self.told("0w1 1w2 0. 1. 2r 2:1", None)
        self.told("0w1 0. 1w2 2r 1. 2:1", None)

    def test_the_first_pair_of_kind_in(self):
        self.told("0w1 0. 1w9 1. 2w3 2. 3r 3:1", ("in", 9, 1))
        self.told("0w1 0. 1w9 2w3 2. 1. 3r 3:1", ("in", 9, 1))
        self.told("0w1 0. 1w9 2w3 2. 3r 3:1 1.", ("in", 3, 1))
        # Two of kind on, each with one within.
        self.told("0w1 0. 1w9 1. 3r 3:1 0w2 0. 1w8 1. 3r 3:2", ("in", 9, 1))

    def test_lost_ahead_of_on_ahead_of_in(self):
        self.told("0w1 0. 1w2 1. 2r 2:1 2r 2:2 2r 2:7", ("lost", 4))
        self.told("0w1 0. 1w2 1. 2r 2:1 2r 2:7", ("lost", 3))
        self.told("0w1 0. 3w3 3. 2r 2:1 0w4 0. 1w2 1. 2r 2:4 2r 2:2", ("on", 4, 2))

    def test_open_deeds(self):
        self.told("0w1 0. 1w2 2r 2:1 2r", None)
        self.told("0w1 0. 1w2 2r 2:2 2r 2:1", ("in", 2, 1))
        self.told("0w1 1w2 2r 2:2 2r 2:1", None)
        self.told("0w1 1w2 2r 2:2 2r 2:1 2r 2:2", ("in", 1, 2))

    def test_not_plain_goes_ahead_of_lost(self):
        self.assertRaises(NotPlain, collision, register_tale("0r 0:9 1w0"))


class JudgedByZonesTest(unittest.TestCase):
    def look_at(self, tale, strict):
        with self.subTest(tale=tale):
            self.assertEqual(repr(zones(tale)), repr(model_zones(tale)))
            paper = collision(tale)
            self.assertEqual(repr(paper), repr(model_collision(tale)))
            self.assertEqual(paper is None, strict)
            self.assertEqual(judged(tale, "strict") is not None, strict)
            return "none" if paper is None else paper[0]

    def test_all_small_tales(self):
        many = 0
        for verbs in [[READ, READ], [WRITES[0], READ], [*WRITES, READ], [WRITES[0], READ, READ]]:
            for tale in all_plain_tales(verbs, [0, 1, 2]):
                model = Model(tale, "strict")
                self.look_at(tale, any([model.order_of(row)[1] for row in model.rows()]))
                many += 1
        self.assertGreater(many, 1000)

    def test_all_tales_of_two_writes_and_two_reads(self):
        words = {}
        for tale in all_plain_tales([*WRITES, READ, READ], [0, 1, 2]):
            word = self.look_at(tale, judged(tale, "strict") is not None)
            words[word] = words.get(word, 0) + 1
        self.assertEqual(sorted(words), ["in", "lost", "none", "on"])

    def test_by_chance(self):
        words = {}
        for tale in chance_plain_tales(31, 400, 5, [0, 1, 2, 3]):
            model = Model(tale, "strict")
            self.look_at(tale, any([model.order_of(row)[1] for row in model.rows()]))
        for tale in chance_plain_tales(32, 1500, 12, [0, 1, 2, 3]):
            word = self.look_at(tale, judged(tale, "strict") is not None)
            words[word] = words.get(word, 0) + 1
        self.assertGreater(min([words[word] for word in ["lost", "on", "in", "none"]]), 30, words)


if __name__ == "__main__":
    unittest.main()
