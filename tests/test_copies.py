import copy
import random
import unittest

from letters import chance_copies_plan, chance_run, choices_of
from plain import register_tale
from strange import Agreeing, no_numbers
from talejudge.copies import run_copies
from talejudge.errors import NoPlan
from talejudge.judge import judged
from talejudge.tales import make_tale
from talejudge.weaker import is_regular, turn_about
from talejudge.zones import collision

READ = ("read", None)
ASK_AND_KEEP = "a0:0 a0:1 A0:0 A0:1 k0:0 k0:1 K0:0 K0:1"


def write(worth):
    return ("write", worth)


class CopiesTest(unittest.TestCase):
    def told(self, many, plan, back, words, expected):
        """By the moves that the words tell, one by one, the tale is as expected; so is the model's."""
        with self.subTest(words):
            choices, events = choices_of(many, plan, back, words)
            tale = run_copies(many, plan, choices, back)
            self.assertEqual(repr(tale), repr(register_tale(expected)))
            self.assertEqual(events, list(tale[1]))
            return tale

    def by_choices(self, many, plan, back, choices, expected):
        with self.subTest(choices):
            self.assertEqual(repr(run_copies(many, plan, choices, back)), repr(register_tale(expected)))


class ChoicesTest(CopiesTest):
    """Choices as numbers, worked out by hand."""

    def test_no_choices(self):
        for many in [3, 5]:
            for back in [True, False]:
                for plan in [[], [[]], [[], [], [], [], [], []], [[write(1)], [READ]]]:
                    self.assertEqual(run_copies(many, plan, [], back), ((("r", "register"),), ()))

    def test_no_moves(self):
        for plan in [[], [[]], [[], []]]:
            self.by_choices(3, plan, True, [0, 1, 2, -1, 10 ** 30], "")

    def test_the_first_move_again_and_again(self):
        # Begin; three askings come; of their answers two are enough; the third counts nowhere, but has to come ahead of
        # the letters to keep; these come, and of their answers two again.
        self.by_choices(3, [[write(7)]], True, [0] * 12, "0w7 0.")
        self.by_choices(3, [[write(7)]], True, [0] * 11, "0w7")
        self.by_choices(3, [[write(7)]], False, [0] * 12, "0w7 0.")
        self.by_choices(3, [[write(7)]], False, [0] * 11, "0w7")
        self.by_choices(3, [[READ]], True, [0] * 12, "0r 0:0")
        self.by_choices(3, [[READ]], True, [0] * 11, "0r")
        self.by_choices(3, [[READ]], False, [0] * 6, "0r 0:0")
        self.by_choices(3, [[READ]], False, [0] * 5, "0r")

    def test_the_first_move_with_five_copies(self):
        # 1 + 5 + 3, then 2 answers that are past, then 5 + 3.
        self.by_choices(5, [[write(7)]], True, [0] * 19, "0w7 0.")
        self.by_choices(5, [[write(7)]], True, [0] * 18, "0w7")
        self.by_choices(5, [[READ]], False, [0] * 9, "0r 0:0")
        self.by_choices(5, [[READ]], False, [0] * 8, "0r")

    def test_begins_stand_ahead_of_letters(self):
        self.by_choices(3, [[READ], [write(3)], [READ]], True, [0, 0, 0], "0r 1w3 2r")
        self.by_choices(3, [[READ], [write(3)], [READ]], True, [2, 1, 0], "2r 1w3 0r")
        self.by_choices(3, [[READ], [], [write(3)]], True, [1, 0], "2w3 0r")
        # The hand whose deed has ended begins its next one ahead of all letters.
        self.by_choices(3, [[READ, write(2)]], False, [0] * 7, "0r 0:0 0w2")

    def test_a_row_by_hand(self):
        # b; a0 a1 come; their answers, behind a2, come: k0 k1 k2 are sent behind a2; k0, k1; their answers.
        self.by_choices(3, [[write(7)]], True, [0, 0, 0, 1, 1, 1, 1, 2, 2], "0w7 0.")
        self.by_choices(3, [[write(7)]], True, [0, 0, 0, 1, 1, 1, 1, 2], "0w7")
        # a2 in the place of an answer: the third answer is missing.
        self.by_choices(3, [[write(7)]], True, [0, 0, 0, 1, 1, 1, 1, 2, 0], "0w7")

    def test_by_what_is_left_over(self):
        # One move, then six, six, six, four, eight and so on, in the row of the test above.
        row = [0, 0, 0, 1, 1, 1, 1, 2, 2]
        moves = [1, 6, 6, 6, 4, 8, 8, 8, 6]
        for times in [1, 2, 10 ** 40, -1, -2, -10 ** 40]:
            choices = [number + times * many for number, many in zip(row, moves)]
            self.by_choices(3, [[write(7)]], True, choices, "0w7 0.")
        # Six moves: the last one, -1, is that the last letter is lost.
        self.by_choices(3, [[READ]], False, [0, -1, 0, 0, 0, 0], "0r 0:0")
        self.by_choices(3, [[READ]], False, [0, -1, 0, 0, 0], "0r")

    def test_lost_letters(self):
        # All letters are lost: the deed is never ended, and there is no move left.
        self.by_choices(3, [[READ]], False, [0, -1, -1, -1, 0, 0, 0, 5], "0r")
        self.by_choices(3, [[write(1), READ]], True, [0, 5, 3, 1, 0, 0, 0], "0w1")
        # Another hand goes on all the same.
        self.by_choices(3, [[READ], [READ]], False, [0, 4, 3, 2] + [0] * 6, "0r 1r 1:0")

    def test_choices_behind_the_end(self):
        self.by_choices(3, [[READ]], False, [0] * 400, "0r 0:0")
        # Hand 1 has begun, and has asked, ahead of hand 0's keeping.
        self.by_choices(3, [[write(7), READ], [READ]], True, [0] * 400, "0w7 1r 0. 0r 1:0 0:7")


class LettersTest(CopiesTest):
    """Moves by their words: which letters come, which not yet, which never."""

    def test_more_than_half(self):
        self.told(3, [[write(7)]], True, "b0 " + ASK_AND_KEEP, "0w7 0.")
        self.told(3, [[write(7)]], True, "b0 a0:2 A0:2 a0:1 A0:1 k0:0 k0:2 K0:2 K0:0", "0w7 0.")
        self.told(3, [[write(7)]], True, "b0 a0:2 A0:2 a0:1 A0:1 k0:0 k0:2 K0:2", "0w7")
        five = "b0 a0:0 a0:1 a0:2 A0:0 A0:1 A0:2 k0:4 k0:3 k0:2 K0:4 K0:3"
        self.told(5, [[write(7)]], True, five + " K0:2", "0w7 0.")
        self.told(5, [[write(7)]], True, five, "0w7")

    def test_a_minority_may_be_lost(self):
        self.told(3, [[write(7), READ]], True, "b0 xa0:1 a0:0 a0:2 A0:0 A0:2 k0:0 k0:1 k0:2 xK0:0 K0:1 K0:2 "
                  "b0 a0:1 a0:2 A0:1 A0:2 k0:1 xk0:2 k0:0 K0:0 K0:1", "0w7 0. 0r 0:7")

    def test_past_answers_count_nowhere(self):
        # The answer to the asking is past when the deed keeps: it is not one of the answers to the keeping.
        self.told(3, [[write(7)]], True, "b0 a0:0 a0:1 a0:2 A0:0 A0:1 k0:0 K0:0 A0:2", "0w7")
        self.told(3, [[write(7)]], True, "b0 a0:0 a0:1 a0:2 A0:0 A0:1 k0:0 K0:0 A0:2 k0:1 K0:1", "0w7 0.")
        # Nor is that to a past deed's keeping or asking one of the next deed's.
        self.told(3, [[write(7), READ]], False,
                  "b0 a0:0 a0:1 a0:2 A0:0 A0:1 k0:0 k0:1 k0:2 K0:0 K0:1 b0 a0:0 A0:0 K0:2 A0:2", "0w7 0. 0r")
        self.told(3, [[READ, READ]], False,
                  "b0 a0:0 a0:1 a0:2 A0:0 A0:1 b0 a0:0 A0:2 A0:0", "0r 0:0 0r")

    def test_past_letters_are_answered(self):
        # The asking of copy 2 comes when the deed has ended: its answer is under way, and may be lost.
        self.told(3, [[READ]], False, "b0 a0:0 a0:1 A0:0 A0:1 a0:2 A0:2", "0r 0:0")
        self.told(3, [[READ]], False, "b0 a0:0 a0:1 A0:0 A0:1 a0:2 xA0:2", "0r 0:0")
        # Then one of another hand stands behind it.
        self.told(3, [[READ], [READ]], False, "b0 a0:0 a0:1 A0:0 A0:1 a0:2 b1 a1:0 a1:1 A1:0 A1:1", "0r 0:0 1r 1:0")

    def test_new_letters_stand_behind(self):
        # Hand 1 asks behind hand 0; what hand 0 sends at its second answer stands behind both.
        plan = [[write(7)], [READ]]
        start = [0, 0, 0, 0]
        # b0, b1, a0:0, a0:1 were the moves: a0:2 a1:0 a1:1 a1:2 A0:0 A0:1 are under way.
        # By 4 and 4 the two answers come: a0:2 a1:0 a1:1 a1:2 k0:0 k0:1 k0:2.
        self.by_choices(3, plan, False, start + [4, 4] + [1, 1, 5, 5], "0w7 1r 1:0")
        self.by_choices(3, plan, False, start + [4, 4] + [4, 4, 5, 5], "0w7 1r 0.")

    def test_late_letters_do_not_turn_back(self):
        # Copies 0 and 1 keep the first write's worth, copies 0 and 2 the second one's; only then the first write's
        # letter comes to copy 2. Copies 1 and 2 are asked.
        words = "b0 " + ASK_AND_KEEP + " b0 1.a0:0 1.a0:1 1.A0:0 1.A0:1 1.k0:0 1.k0:2 1.K0:0 1.K0:2"
        plan = [[write(1), write(2)], [READ]]
        for late in ["", "0.k0:2", "0.k0:2 0.K0:2", "0.k0:2 0.a0:2 0.A0:2 0.K0:2 1.k0:1", "x0.k0:2 x1.k0:1"]:
            for back in [True, False]:
                asked = " b1 a1:1 a1:2 A1:1 A1:2" + (" k1:1 k1:2 K1:1 K1:2" if back else "")
                tale = self.told(3, plan, back, words + " " + late + asked, "0w1 0. 0w2 0. 1r 1:2")
                self.assertIsNone(collision(tale))

    def test_numbers_go_ahead_of_hands(self):
        # Hand 1's write is (1, 1), hand 0's later one (2, 0): that is the greater one.
        words = "b1 a1:0 a1:1 A1:0 A1:1 k1:0 k1:1 K1:0 K1:1 b0 " + ASK_AND_KEEP
        self.told(3, [[write(5)], [write(9)], [READ]], False, words + " b2 a2:0 a2:2 A2:0 A2:2",
                  "1w9 1. 0w5 0. 2r 2:5")
        # And the late letter of hand 1's does nothing to it, as to copy 1 it comes behind it.
        words = "b1 a1:0 a1:1 A1:0 A1:1 k1:0 k1:2 K1:0 K1:2 b0 a0:0 a0:1 A0:0 A0:1 k0:1 k0:2 K0:1 K0:2"
        self.told(3, [[write(5)], [write(9)], [READ]], False, words + " k1:1 b2 a2:0 a2:1 A2:0 A2:1",
                  "1w9 1. 0w5 0. 2r 2:5")

    def test_hands_part_like_numbers(self):
        # Both ask ahead of any keeping: (1, 0) and (1, 1), of which that of hand 1 is the greater one.
        words = "b0 b1 a0:0 a0:1 a1:0 a1:1 A0:0 A0:1 A1:0 A1:1 "
        for row in ["k0:0 k0:1 k1:0 k1:1", "k1:0 k1:1 k0:0 k0:1", "k0:0 k1:0 k1:1 k0:1"]:
            tale = self.told(3, [[write(9)], [write(5)], [READ]], True,
                             words + row + " K0:0 K0:1 K1:0 K1:1 b2 a2:0 a2:1 A2:0 A2:1 k2:2 k2:0 K2:2 K2:0",
                             "0w9 1w5 0. 1. 2r 2:5")
            self.assertIsNotNone(judged(tale, "strict"))

    def test_the_next_number(self):
        # Hand 0 writes twice, (1, 0) and (2, 0); hand 1 goes on from the greater one: (3, 1).
        words = "b0 " + ASK_AND_KEEP + " b0 " + ASK_AND_KEEP
        plan = [[write(1), write(2)], [write(3)], [READ], []]
        self.told(3, plan, False, words + " b1 a1:1 a1:2 A1:2 A1:1 k1:2 k1:0 K1:0 K1:2 b2 a2:1 a2:2 A2:1 A2:2",
                  "0w1 0. 0w2 0. 1w3 1. 2r 2:3")

    def test_a_write_that_stays_open(self):
        # Copy 0 alone keeps 7. A read may hear it, or not; one that writes back brings it to more than half.
        words = "b0 a0:0 a0:1 A0:0 A0:1 k0:0 xk0:1 xk0:2 "
        plan = [[write(7), READ], [READ], [READ]]
        self.told(3, plan, True, words + "b1 a1:1 a1:2 A1:1 A1:2 k1:1 k1:2 K1:1 K1:2", "0w7 1r 1:0")
        tale = self.told(3, plan, True, words + "b1 a1:0 a1:2 A1:0 A1:2 k1:1 k1:2 K1:1 K1:2 "
                         "b2 a2:1 a2:2 A2:1 A2:2 k2:1 k2:2 K2:1 K2:2", "0w7 1r 1:7 2r 2:7")
        self.assertIsNone(collision(tale))

    def test_reads_without_writing_back(self):
        words = "b0 a0:0 a0:1 A0:0 A0:1 k0:0 b1 a1:0 a1:1 A1:0 A1:1 b2 a2:1 a2:2 A2:1 A2:2"
        plan = [[write(7)], [READ], [READ]]
        tale = self.told(3, plan, False, words, "0w7 1r 1:7 2r 2:0")
        self.assertIsNone(judged(tale, "strict"))
        self.assertIs(is_regular(tale), True)
        self.assertEqual(turn_about(tale), (1, 2))
        # By writing back the first one goes on: it ends when more than half hold 7.
        self.told(3, plan, True, words, "0w7 1r 2r")
        self.told(3, plan, True, words.replace(" b2", " k1:2 k1:1 K1:1 K1:2 b2") + " k2:0 k2:1 K2:0 K2:1",
                  "0w7 1r 1:7 2r 2:7")

    def test_a_read_without_writing_back_ends_at_that_move(self):
        self.told(3, [[READ, READ]], False, "b0 a0:0 a0:1 A0:0 A0:1", "0r 0:0")
        self.told(3, [[READ, READ]], False, "b0 a0:0 a0:1 A0:0", "0r")
        self.told(5, [[READ]], False, "b0 a0:0 a0:1 a0:2 A0:0 A0:1 A0:2", "0r 0:0")
        self.told(5, [[READ]], False, "b0 a0:0 a0:1 a0:2 A0:0 A0:1", "0r")

    def test_answers_tell_what_was_held_when_asked(self):
        # Copy 0 and 1 are asked ahead of the write's keeping, and answer so, though their answers come later.
        self.told(3, [[write(7)], [READ]], False, "b1 a1:0 a1:1 b0 " + ASK_AND_KEEP + " A1:0 A1:1",
                  "1r 0w7 0. 1:0")


class PlansTest(unittest.TestCase):
    def refused(self, many, plan):
        with self.subTest(many=many, plan=plan):
            for back in [True, False]:
                self.assertRaises(NoPlan, run_copies, many, plan, [0, 0], back)
                self.assertRaises(NoPlan, run_copies, many, plan, [], back)

    def test_how_many_copies(self):
        for many in [0, 1, 2, 4, 6, 7, -3, -5, 10 ** 30, None, 3.0, 5.0, "3", "three", (3,), [3]] + no_numbers():
            self.refused(many, [[READ]])
            self.refused(many, [])

    def test_plans_that_are_no_lists(self):
        for plan in [None, 0, 1, True, "", "read", (), ([READ],), {}, {0: [READ]}, {READ}, object(), Agreeing(), list]:
            self.refused(3, plan)

    def test_hands_that_are_no_lists(self):
        for own in [None, 0, True, "", "read", (), (READ,), READ, {}, {0: READ}, set(), object(), Agreeing(), list]:
            self.refused(3, [own])
            self.refused(5, [[READ], own])

    def test_deeds_that_are_none(self):
        strange = [None, 0, True, "", "read", [], ["read", None], (), ("read",), ("read", None, None), ("read", 0),
                   ("read", 5), ("read", ""), ("Read", None), ("read ", None), ("write",), ("write", None),
                   ("write", True), ("write", False), ("write", 1.0), ("write", "1"), ("write", (1,)), ("write", 1, 2),
                   ("write", 10 ** 9 + 1), ("write", -10 ** 9 - 1), ("add", 1), ("put", 1), ("take", None),
                   ("swap", (0, 1)), (None, None), (0, 1), (READ,), ([], []), (["read"], None), (Agreeing(), None),
                   ("write", Agreeing()), ("read", Agreeing()), Agreeing(), object(), {"write": 1}]
        for deed in strange:
            self.refused(3, [[deed]])
            self.refused(3, [[write(1), READ], [], [READ, deed, READ]])

    def test_worths(self):
        for plan in [[[write(0)]], [[READ], [write(1), write(0)]], [[write(1), write(1)]], [[write(1)], [write(1)]],
                     [[write(-4)], [write(5)], [READ, write(-4)]]]:
            self.refused(3, plan)
            self.refused(5, plan)
        for worth in [1, -1, 10 ** 9, -10 ** 9]:
            tale = run_copies(3, [[write(worth), READ]], [0] * 40, True)
            self.assertEqual(tale, register_tale(f"0w{worth} 0. 0r 0:{worth}"))

    def test_how_many_hands(self):
        for many in range(7):
            tale = run_copies(3, [[READ] for hand in range(many)], [0] * many, True)
            self.assertEqual(tale, register_tale(" ".join([f"{hand}r" for hand in range(many)])))
        self.refused(3, [[], [], [], [], [], [], []])
        self.refused(3, [[READ] for hand in range(7)])

    def test_how_many_deeds(self):
        for plan in [[[READ] * 24], [[READ] * 4 for hand in range(6)], [[], [write(n) for n in range(1, 25)]]]:
            tale = run_copies(3, plan, [0] * 400, False)
            self.assertEqual(len(tale[1]), 48)
            self.refused(3, plan[:-1] + [plan[-1] + [READ]])


class ManyRunsTest(unittest.TestCase):
    def look_at(self, source, many, plan, back, most):
        choices, events = chance_run(source, many, plan, back, most)
        handed = copy.deepcopy(plan), list(choices)
        tale = run_copies(many, plan, choices, back)
        self.assertEqual((plan, choices), handed)
        self.assertEqual(repr(tale), repr(make_tale([("r", "register")], events)))
        self.assertEqual(tale, run_copies(many, plan, choices, back))
        return tale

    def test_runs_by_majorities_are_strict(self):
        source = random.Random(51)
        ended = 0
        for number in range(800):
            plan = chance_copies_plan(source, 4, 9 if number % 2 == 0 else 22)
            tale = self.look_at(source, source.choice([3, 3, 5]), plan, True, 300)
            with self.subTest(tale=tale):
                self.assertIsNone(collision(tale))
                if number % 4 == 0:
                    self.assertIsNotNone(judged(tale, "strict"))
            ended += len(tale[1]) == 2 * sum([len(own) for own in plan])
        self.assertGreater(ended, 300)

    def test_runs_without_writing_back_are_regular(self):
        source = random.Random(52)
        sorts = {True: 0, False: 0}
        for number in range(1200):
            plan = chance_copies_plan(source, 4, 22, [source.randrange(2)])
            tale = self.look_at(source, source.choice([3, 3, 5]), plan, False, 250)
            with self.subTest(tale=tale):
                self.assertIs(is_regular(tale), True)
                sorts[collision(tale) is None] += 1
        self.assertGreater(min(sorts.values()), 10, sorts)

    def test_other_runs_without_writing_back(self):
        source = random.Random(53)
        for number in range(300):
            self.look_at(source, source.choice([3, 5]), chance_copies_plan(source, 6, 12), False, 200)

    def test_choices_of_any_size(self):
        source = random.Random(54)
        for number in range(300):
            choices = [source.choice([-1, 1]) * source.randrange(10 ** source.randrange(1, 30)) for one in range(150)]
            tale = run_copies(source.choice([3, 5]), chance_copies_plan(source, 4, 9), choices, True)
            self.assertIsNone(collision(tale))

    def test_nothing_is_kept(self):
        plan, choices = [[write(7)], [READ]], [0] * 12
        first = run_copies(3, plan, choices, True)
        plan[0].append(write(8))
        plan[1].clear()
        choices.clear()
        self.assertEqual(run_copies(3, [[write(7)], [READ]], [0] * 12, True), first)
        # 12 moves; then the second deed begins, the last answer to the first one comes, and 11 moves again.
        self.assertEqual(run_copies(3, plan, [0] * 25, True), register_tale("0w7 0. 0w8 0."))
        self.assertEqual(run_copies(3, plan, [0] * 24, True), register_tale("0w7 0. 0w8"))


if __name__ == "__main__":
    unittest.main()
