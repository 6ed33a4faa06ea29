import random
import unittest

from model import chance_tales
from plain import chance_plain_tales
from strange import no_strictnesses, no_texts
from talejudge.beginnings import bad_beginning, may_answer
from talejudge.desk import Desk
from talejudge.errors import NoHand, NoRow, NoStrictness, NotPlain, NoTale, NoThing, TaleError
from talejudge.judge import judged
from talejudge.parts import part
from talejudge.stuck import stuck_paper
from talejudge.talenotes import read_tale, show_tale
from talejudge.zones import collision

LATE = ["thing r register", "0 begin r write 7", "0 end ok", "1 begin r read", "1 end 0"]
QUESTIONS = ["judge strict", "judge hands", "judge bare", "bad", "zones", "part a", "part b", "part r", "may 0", "may 1",
             "may 2", "may 3", "may 4", "may 5"]

# Rows that are none of the interface, whatever the tale.
NO_ROWS = [
    "", " ", "  ", "\n", "judge", "judge strict ", " judge strict", "judge  strict", "judge strict hands", "Judge strict",
    "JUDGE strict", "judged strict", "judge\tstrict", "judge\nstrict", "bad ", " bad", "bad 1", "bad  ", "Bad", "bads",
    "bad\n", "\nbad", "may", "may 0 1", "may  0", "may 0 ", " may 0", "may 00", "may 01", "may 001", "may 000", "may 1000",
    "may 0000", "may -1", "may +1", "may -0", "may 1.", "may 1\n", "may one", "may r", "may \u0661", "may \u00b2", "may 1_0",
    "may 0x1", "may\t0", "part", "part r r", "part  r", "part r ", " part r", "Part r", "parts", "zones ", " zones",
    "zones r", "zone", "Zones", "zones\n", "clear ", " clear", "clear all", "Clear", "clear\n", "clears", "ok", "none",
    "help", "things", "Thing r register", " thing r register", "thing\tr register", "thing\n", "-1 end ok", "+1 end ok",
    "-0 end ok", "0x end ok", "1_0 end ok", "\u0661 end ok", "\u00b2 end ok", "begin", "begin 0 r read", "end 0 ok",
    " 0 end ok", "0\tend ok", "0\n", "0\nend ok", "r", "0a begin r read", "strict", "judge:strict", "5:ok", ".", "\0"]

# Lines that no tale has.
NO_LINES = [
    "thing", "thing ", "thing r", "thing r ", "thing  register", "thing r registers", "thing r Register",
    "thing r register ", "thing r  register", "thing r register 0", "thing R register", "thing r1 register",
    "thing abcdefghi register", "thing r register\n", "thing r\nregister", "thing \u00e4 register", "0", "0 ", "0 begin",
    "0 begin ", "0 begin r", "0 begin r write", "0 begin r write ", "0 begin r write 07", "0 begin r write +7",
    "0 begin r write -0", "0 begin r write 7 ", "0 begin r write 7 8", "0 begin r write  7", "0 begin r write 7\n",
    "0 begin r write x", "0 begin r write None", "0 begin r write 1000000001", "0 begin r write -1000000001",
    "0 begin r write 99999999999999999999999", "0 begin r read 0", "0 begin r read ", "0 begin r read\n",
    "0 begin r add 1", "0 begin r swap 0 1", "0 begin s read", "0 begin R read", "0 Begin r read", "00 begin r read",
    "01 begin r read", "6 begin r read", "10 begin r read", "00000000000000000000 begin r read", "0 end", "0 end ",
    "0 end ok ", "0 end Ok", "0 end 00", "0 end -0", "0 end +1", "0 end ok ok", "0 end 1000000000001", "0 end x",
    "0 end None", "0 end ok\n", "0 begin r read\n0 end 0", "0 judge strict", "0 bad", "7", "0123456789"]


def desk_with(rows):
    desk = Desk()
    for row in rows:
        desk.say(row)
    return desk


def answers_of(desk):
    """What the desk answers to each question, or the refusal's name."""
    found = []
    for row in QUESTIONS:
        try:
            found.append(desk.say(row))
        except TaleError as error:
            found.append(type(error).__name__)
    return found


def expected_answers(tale):
    """The same, told by the functions that the questions stand for."""
    found = []
    for strictness in ["strict", "hands", "bare"]:
        found.append(verdict(tale, strictness))
    bad = bad_beginning(tale)
    found.append("none" if bad is None else f"{bad}")
    try:
        paper = collision(tale)
        found.append("none" if paper is None else " ".join([f"{value}" for value in paper]))
    except NotPlain:
        found.append("NotPlain")
    for name in "abr":
        known = name in [thing[0] for thing in tale[0]]
        found.append(verdict(part(tale, name), "strict") if known else "NoThing")
    for hand in range(6):
        try:
            found.append(" ".join([f"{answer}" for answer in may_answer(tale, hand)]) or "nothing")
        except NoHand:
            found.append("NoHand")
    return found


def verdict(tale, strictness):
    order = judged(tale, strictness)
    if order is None:
        return f"stuck {len(stuck_paper(tale, strictness))}"
    return "".join(["order"] + [f" {number}:{answer}" for number, answer in order])


class DeskTest(unittest.TestCase):
    def told(self, rows, row, answer):
        """The row's answer behind the other rows; a question changes nothing, and is answered the same again."""
        with self.subTest(rows=rows, row=row):
            desk = desk_with(rows)
            self.assertEqual(desk.say(row), answer)
            self.assertEqual(desk.say(row), answer)

    def refused(self, error, rows, row):
        with self.subTest(rows=rows, row=row):
            desk = desk_with(rows)
            before = answers_of(desk)
            self.assertRaises(error, desk.say, row)
            self.assertEqual(answers_of(desk), before)

    def test_at_first(self):
        self.assertEqual(answers_of(Desk()), ["order"] * 3 + ["none", "NotPlain"] + ["NoThing"] * 3 + ["NoHand"] * 6)

    def test_lines(self):
        desk = Desk()
        for row in LATE:
            self.assertEqual(desk.say(row), "ok")
        self.assertEqual(answers_of(desk), expected_answers(read_tale("\n".join(LATE) + "\n")))

    def test_two_desks(self):
        one, other = desk_with(LATE), Desk()
        self.assertEqual(other.say("judge strict"), "order")
        other.say("thing q queue")
        self.assertEqual(one.say("judge strict"), "stuck 2")
        self.assertRaises(NoThing, one.say, "part q")

    def test_judge(self):
        self.told([], "judge strict", "order")
        self.told(["thing q queue"], "judge bare", "order")
        self.told(LATE, "judge strict", "stuck 2")
        self.told(LATE, "judge hands", "order 1:0 0:ok")
        self.told(LATE, "judge bare", "order 1:0 0:ok")
        self.told(LATE[:4], "judge strict", "order 0:ok")
        rows = ["thing n counter", "thing q queue", "0 begin q take", "0 end none", "1 begin n add -5", "1 end 0",
                "0 begin n read", "0 end -5"]
        self.told(rows, "judge strict", "order 0:none 1:0 2:-5")
        self.told(rows[:-1] + ["0 end -4"], "judge strict", "stuck 3")
        self.told(rows[:-1] + ["0 end -4"], "judge bare", "stuck 4")

    def test_words_that_are_no_strictness(self):
        words = [word for word in no_strictnesses() if isinstance(word, str) and word and " " not in word]
        for word in words + ["r", "0", "order", "strict\n", "\n", "\t", "x" * 5000]:
            self.refused(NoStrictness, LATE, "judge " + word)

    def test_words_of_no_signs(self):
        for row in ["judge ", "part "]:
            self.refused(TaleError, LATE, row)
            self.refused(TaleError, [], row)

    def test_bad(self):
        self.told([], "bad", "none")
        self.told(LATE, "bad", "4")
        self.told(LATE[:4], "bad", "none")
        self.told(LATE + ["2 begin r read", "2 end 7"], "bad", "4")
        self.told(["thing r register", "0 begin r write 1", "0 end none"], "bad", "2")

    def test_may(self):
        self.told(LATE[:4], "may 1", "7")
        self.told(LATE[:2] + LATE[3:4], "may 1", "0 7")
        self.told(LATE[:2], "may 0", "ok")
        # A tale that is not strict.
        self.told(LATE + ["5 begin r read"], "may 5", "nothing")
        self.told(["thing q queue", "0 begin q put -3", "0 end ok", "3 begin q take", "1 begin q take"], "may 3", "-3 none")
        for word in ["0", "1", "2", "5", "6", "9", "10", "99", "100", "999"]:
            self.refused(NoHand, LATE, "may " + word)
            self.refused(NoHand, [], "may " + word)
        self.refused(NoHand, LATE[:4], "may 0")
        self.refused(NoHand, LATE[:4], "may 11")

    def test_part(self):
        rows = ["thing a counter", "thing b register", "0 begin a add 5", "1 begin b write 3", "0 end 0", "2 begin b read",
                "2 end 0", "1 end ok", "0 begin a read", "0 end 5"]
        # By the part's own numbers.
        self.told(rows, "part a", "order 0:0 1:5")
        self.told(rows, "part b", "order 1:0 0:ok")
        self.told(rows, "judge strict", "order 0:0 2:0 1:ok 3:5")
        worse = rows[:-1] + ["0 end 6"]
        self.told(worse, "part a", "stuck 2")
        self.told(worse, "part b", "order 1:0 0:ok")
        self.told(rows + ["thing c set"], "part c", "order")
        for word in ["c", "A", "ab", "0", "a\n", "\n", "abcdefghi", "x" * 5000, "strict"]:
            self.refused(NoThing, rows, "part " + word)
        self.refused(NoThing, [], "part a")

    def test_zones(self):
        self.told(LATE, "zones", "in 7 0")
        self.told(LATE[:4], "zones", "none")
        self.told(LATE[:1], "zones", "none")
        self.told(LATE[:3] + ["1 begin r read", "1 end -8"], "zones", "lost 1")
        self.told(["thing r register", "0 begin r write 5", "1 begin r write -6", "0 end ok", "1 end ok",
                   "2 begin r read", "2 end 5", "2 begin r read", "2 end -6", "2 begin r read", "2 end 5"], "zones", "on 5 -6")
        self.refused(NotPlain, [], "zones")
        self.refused(NotPlain, ["thing q queue"], "zones")
        self.refused(NotPlain, LATE + ["thing q queue"], "zones")
        self.refused(NotPlain, LATE + ["2 begin r write 7"], "zones")

    def test_clear(self):
        desk = desk_with(LATE)
        self.assertEqual(desk.say("clear"), "ok")
        self.assertEqual(answers_of(desk), answers_of(Desk()))
        self.assertEqual(desk.say("clear"), "ok")
        self.assertRaises(NoTale, desk.say, "0 begin r read")
        # What was there may come again, and other things of its name.
        self.assertEqual(desk.say("thing r queue"), "ok")
        self.assertEqual(desk.say("0 begin r take"), "ok")
        self.assertEqual(desk.say("may 0"), "none")

    def test_things_at_their_places(self):
        # Behind events, and in any order: the places and orders are those of the tale.
        rows = ["thing c register", "0 begin c write 7", "0 end ok", "thing a queue", "1 begin a take", "thing b set",
                "1 end none", "2 begin b put 4", "2 end 1"]
        for row in ["judge strict", "judge hands", "part a", "part b", "part c", "bad"]:
            tale = desk_with(sorted([row for row in rows if row[0] == "t"]) + [row for row in rows if row[0] != "t"])
            self.told(rows, row, tale.say(row))
        self.told(rows, "judge strict", "order 0:ok 1:none 2:1")

    def test_each_kind(self):
        for rows, answer in [
                (["thing c cell", "0 begin c swap 0 -4", "0 end 1", "0 begin c read", "0 end -4"], "order 0:1 1:-4"),
                (["thing s set", "0 begin s put 3", "0 end 1", "0 begin s has 3", "0 end 1", "0 begin s cut 4", "0 end 0"],
                 "order 0:1 1:1 2:0"),
                (["thing n counter", "5 begin n add 1000000000", "5 end 0", "5 begin n read", "5 end 1000000000"],
                 "order 0:0 1:1000000000"),
                (["thing q queue", "5 begin q put -1000000000", "5 end ok", "5 begin q take", "5 end -1000000000000"],
                 "stuck 2")]:
            self.told(rows, "judge strict", answer)

    def test_lines_that_are_none(self):
        for row in NO_LINES:
            self.refused(NoTale, LATE[:1], row)
            self.refused(NoTale, LATE, row)
            self.refused(NoTale, [], row)
        self.refused(NoTale, LATE[:2], "0 end 07")
        self.refused(NoTale, LATE[:2], "0 end ok ")
        self.refused(NoTale, LATE[:2], "00 end ok")
        self.refused(NoTale, LATE[:2], "0 end ok\n")

    def test_tales_that_are_none(self):
        self.refused(NoTale, [], "0 begin r read")
        self.refused(NoTale, LATE[:1], "0 end ok")
        self.refused(NoTale, LATE[:2], "0 begin r read")
        self.refused(NoTale, LATE[:2], "1 end ok")
        self.refused(NoTale, LATE[:3], "0 end ok")
        self.refused(NoTale, LATE, "thing r register")
        self.refused(NoTale, LATE, "thing r queue")
        self.refused(NoTale, LATE, "1 begin q take")
        six = [f"thing {name} set" for name in "abcdef"]
        self.told(six, "part f", "order")
        self.refused(NoTale, six, "thing g set")
        rows = ["thing n counter"] + ["0 begin n read", "0 end 0"] * 24
        self.told(rows, "bad", "none")
        self.refused(NoTale, rows, "0 begin n read")
        self.refused(NoTale, rows, "1 begin n read")

    def test_rows_that_are_none(self):
        for row in NO_ROWS:
            self.refused(NoRow, LATE[:4], row)
        for row in NO_ROWS:
            self.refused(NoRow, [], row)

    def test_no_texts(self):
        for row in no_texts() + [b"clear", ["clear"], ("judge", "strict"), bytearray(b"bad")]:
            self.refused(NoRow, LATE, row)

    def test_tales_by_chance(self):
        source = random.Random(81)
        for tale in chance_tales(82, 300, 5) + chance_plain_tales(83, 200, 8, [0, 1]):
            rows = show_tale(tale).splitlines()
            # Things may come when they like, if ahead of their first deed.
            things = [row for row in rows if row.startswith("thing")]
            source.shuffle(things)
            rows = things + [row for row in rows if not row.startswith("thing")]
            with self.subTest(rows=rows):
                desk = Desk()
                for row in rows:
                    self.say_refused(desk, source)
                    self.assertEqual(desk.say(row), "ok")
                self.say_refused(desk, source)
                expected = expected_answers(tale)
                self.assertEqual(answers_of(desk), expected)
                self.assertEqual(answers_of(desk), expected)

    def say_refused(self, desk, source):
        for row in source.sample(NO_ROWS + NO_LINES[:16] + ["judge x", "part x", "may 777"], 2):
            self.assertRaises(TaleError, desk.say, row)


if __name__ == "__main__":
    unittest.main()
