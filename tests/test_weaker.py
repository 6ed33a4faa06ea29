import unittest

from model import Model
from plain import all_plain_tales, chance_plain_tales, not_plain, register_tale
from talejudge.errors import NotPlain
from talejudge.judge import judged
from talejudge.tales import deeds
from talejudge.weaker import is_regular, is_safe, turn_about

WRITES = [("write", 1), ("write", 2)]
READ = ("read", None)


def two_writing_hands():
    return [register_tale(words) for words in [
        "0w1 1w2", "0w1 0. 1w2", "0w1 0. 1w2 1.", "5w1 5. 0r 0:1 0w2", "0w1 0. 0w2 0. 0w3 1w4",
        "0w1 0. 1w2 1. 2r 2:9", "1r 1:0 0w1 0. 1w2"]]


def moments(deed):
    """The moments at which a deed is open: number m lies between events m and m + 1. An open one stays so."""
    return set(range(deed[5], 1000 if deed[6] is None else deed[6]))


def model_reads(tale):
    """Of each ended read its number, its deed, the worths that are regular for it, and whether a write is beside it."""
    told = deeds(tale)
    writes = [deed for deed in told if deed[2] == "write"]
    for number, read in enumerate(told):
        if read[2] == "read" and read[6] is not None:
            beside = [write[3] for write in writes if moments(write) & moments(read)]
            ahead = [write for write in writes if moments(write) and max(moments(write)) < read[5]]
            last = max(ahead, key=lambda write: write[6])[3] if ahead else 0
            yield number, read, beside + [last], len(beside) > 0


def model_turns(tale):
    """All turns about: each row of two reads against the row of the worths, as the hand wrote them."""
    row = [0] + [event[4] for event in tale[1] if event[0] == "begin" and event[3] == "write"]
    reads = [(number, read) for number, read, worths, beside in model_reads(tale)]
    return [(one, other) for one, read in reads for other, behind in reads
            if max(moments(read)) < min(moments(behind)) and read[4] in row and behind[4] in row
            and row.index(behind[4]) < row.index(read[4])]


class WeakerTest(unittest.TestCase):
    def look_at(self, tale):
        """The tale's words beside those of the model: whether it is regular, whether it is safe, its turn about."""
        with self.subTest(tale=tale):
            reads = list(model_reads(tale))
            regular = all([read[4] in worths for number, read, worths, beside in reads])
            safe = all([read[4] in worths for number, read, worths, beside in reads if not beside])
            turns = model_turns(tale)
            self.assertIs(is_regular(tale), regular)
            self.assertIs(is_safe(tale), safe)
            self.assertEqual(repr(turn_about(tale)), repr(min(turns, default=None)))
            strict = judged(tale, "strict") is not None
            if regular:
                self.assertIs(safe, True)
                self.assertEqual(strict, turns == [])
            if strict:
                self.assertEqual((regular, turns), (True, []))
            return regular, safe, len(turns) > 0

    def told(self, words, regular, safe, turn=None):
        with self.subTest(words):
            tale = register_tale(words)
            self.assertIs(is_regular(tale), regular)
            self.assertIs(is_safe(tale), safe)
            self.assertEqual(repr(turn_about(tale)), repr(turn))
            self.assertEqual(self.look_at(tale), (regular, safe, turn is not None))

    def test_no_writes_at_all(self):
        self.told("", True, True)
        self.told("0r", True, True)
        self.told("0r 0:0 0r 1r 1:0", True, True)
        self.told("0r 0:5", False, False)
        self.told("0r 0:0 1r 1:-1", False, False)

    def test_no_reads(self):
        self.told("0w1", True, True)
        self.told("0w1 0. 0w2 1r", True, True)

    def test_away_from_open_writes(self):
        self.told("0w1 0. 1r 1:1", True, True)
        self.told("0w1 0. 1r 1:0", False, False)
        self.told("1r 1:0 0w1 0.", True, True)
        self.told("1r 1:1 0w1 0.", False, False)
        self.told("0w1 0. 0w2 0. 1r 1:2 0w3", True, True)
        self.told("0w1 0. 0w2 0. 1r 1:1 0w3", False, False)
        self.told("0w1 0. 0w2 0. 1r 1:3 0w3", False, False)
        self.told("0w2 0. 0w1 0. 1r 1:1", True, True)
        # The writing hand reads, too.
        self.told("0w1 0. 0r 0:1 0w2 0. 0r 0:2", True, True)
        self.told("0w1 0. 0r 0:0", False, False)

    def test_beside_open_writes(self):
        self.told("0w1 1r 0. 1:1", True, True)
        self.told("0w1 1r 0. 1:0", True, True)
        self.told("1r 0w1 1:1 0.", True, True)
        self.told("1r 0w1 0. 1:0", True, True)
        self.told("1r 0w1 0. 0w2 0. 1:1", True, True)
        self.told("0w9 0. 1r 0w1 0. 0w2 0. 1:9", True, True)
        # The last write that ended ahead of the read's begin is 9; what was ahead of it is gone.
        self.told("0w8 0. 0w9 0. 1r 0w1 0. 1:8", False, True)
        self.told("0w9 0. 1r 0w1 0. 1:0", False, True)
        # Begun behind the read's end, though at once.
        self.told("0w9 0. 1r 0w1 1:2 0. 0w2", False, True)

    def test_worths_that_nobody_writes(self):
        self.told("0w1 1r 1:7 0.", False, True)
        self.told("0w1 0. 1r 1:7", False, False)
        self.told("0w1 1r 1:1000000000000", False, True)

    def test_writes_that_are_never_ended(self):
        self.told("0w1 1r 1:0 1r 1:1 2r 2:1", True, True)
        self.told("0w1 1r 1:7 1r 1:8", False, True)
        self.told("0w9 0. 0w1 1r 1:0 1r 1:9", False, True)
        self.told("0w9 0. 1r 1:0 0w1", False, False)
        self.told("0w9 0. 1r 1:9 0w1 2r 2:9 2r 2:1", True, True)

    def test_open_reads_are_not_asked(self):
        self.told("0w1 0. 1r", True, True)
        self.told("1r 0w1 0. 2r 2:1", True, True)

    def test_turns_about(self):
        self.told("0w1 1r 1:1 2r 2:0 0.", True, True, (1, 2))
        self.told("0w1 1r 1:0 2r 2:1 0.", True, True)
        self.told("0w1 1r 2r 1:1 2:0 0.", True, True)
        self.told("0w1 1r 1:1 2r 2:1 0.", True, True)
        self.told("0w1 0. 0w2 1r 1:2 2r 2:1", True, True, (2, 3))
        # The writing hand's row, not the worths' own.
        self.told("0w2 0. 0w1 1r 1:1 2r 2:2", True, True, (2, 3))
        self.told("0w2 0. 0w1 1r 1:2 2r 2:1", True, True)

    def test_the_first_turn_about(self):
        # By the read's number, then by the other's; both reads of 1 are ahead of both of 0.
        self.told("0w1 1r 2r 2:1 1:1 1r 2r 2:0 1:0", True, True, (1, 3))
        self.told("0w1 1r 1:0 2r 2:1 1r 1:0 2r 2:0", True, True, (2, 3))
        # Deed 1 ended too late for 3, but ahead of 4.
        self.told("0w1 1r 2r 2:1 3r 1:1 3:0 3r 3:0", True, True, (1, 4))

    def test_turns_about_of_tales_that_are_not_regular(self):
        self.told("0w1 0. 0w2 0. 1r 1:2 1r 1:1", False, False, (2, 3))
        self.told("1r 1:1 1r 1:0 0w1", False, False, (0, 1))

    def test_unknown_worths_are_in_no_turn(self):
        self.told("0w1 1r 1:7 2r 2:0 0.", False, True)
        self.told("0w1 1r 1:1 2r 2:7 0.", False, True)
        self.told("0w1 1r 1:1 2r 2:7 2r 2:0 0.", False, True, (1, 3))

    def test_open_reads_are_in_no_turn(self):
        self.told("0w1 1r 1:1 2r 0.", True, True)

    def test_writes_of_two_hands(self):
        for tale in two_writing_hands():
            with self.subTest(tale=tale):
                for ask in [is_regular, is_safe, turn_about]:
                    self.assertRaises(NotPlain, ask, tale)

    def test_any_one_hand_may_write(self):
        for hand in "012345":
            self.told(f"{hand}w1 {hand}. {hand}w2 {hand}. {hand}r {hand}:2", True, True)

    def test_not_plain(self):
        for tale in not_plain():
            with self.subTest(tale=tale):
                for ask in [is_regular, is_safe, turn_about]:
                    self.assertRaises(NotPlain, ask, tale)

    def test_all_small_tales(self):
        found = {}
        for verbs in [[READ, READ], [WRITES[0], READ], [WRITES[0], READ, READ], [WRITES[0], READ, READ, READ]]:
            for tale in all_plain_tales(verbs, [0, 1, 2] if len(verbs) < 4 else [0, 1]):
                words = self.look_at(tale)
                found[words] = found.get(words, 0) + 1
        self.assertGreater(len(found), 4, found)

    def test_by_chance(self):
        found = {}
        for tale in chance_plain_tales(41, 300, 5, [2]):
            model = Model(tale, "strict")
            strict = any([model.order_of(row)[1] for row in model.rows()])
            words = self.look_at(tale)
            if words[0]:
                self.assertEqual(strict, not words[2])
        for tale in chance_plain_tales(42, 4000, 12, [2], 3):
            words = self.look_at(tale)
            found[words] = found.get(words, 0) + 1
        # A tale that is not safe is not regular; all else there is, with turns about and without.
        self.assertEqual(len(found), 6, found)
        self.assertGreater(min(found.values()), 10, found)


if __name__ == "__main__":
    unittest.main()
