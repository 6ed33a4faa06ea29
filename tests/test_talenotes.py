import copy
import itertools
import unittest

from talejudge.errors import NoTale
from talejudge.talenotes import read_tale, show_tale
from talejudge.tales import make_tale

TOP = 10 ** 9
FAR = 10 ** 12
THINGS = [("s", "set"), ("a", "register"), ("q", "queue"), ("c", "cell"), ("n", "counter")]
HEAD = "thing a register\nthing c cell\nthing n counter\nthing q queue\nthing s set\n"
BEGINS = [
    ("a", "write", 1, "a write 1"), ("a", "write", 0, "a write 0"), ("a", "write", -1, "a write -1"),
    ("a", "write", TOP, "a write 1000000000"), ("a", "write", -TOP, "a write -1000000000"),
    ("a", "read", None, "a read"), ("n", "add", -25, "n add -25"), ("n", "read", None, "n read"),
    ("q", "put", 30, "q put 30"), ("q", "take", None, "q take"), ("s", "put", 4, "s put 4"),
    ("s", "cut", 5, "s cut 5"), ("s", "has", 6, "s has 6"), ("c", "write", 7, "c write 7"),
    ("c", "swap", (8, -9), "c swap 8 -9"), ("c", "swap", (-TOP, 0), "c swap -1000000000 0"),
    ("c", "read", None, "c read"),
]
ANSWERS = [(0, "0"), (1, "1"), (-1, "-1"), (10, "10"), (907, "907"), (FAR, "1000000000000"),
           (-FAR, "-1000000000000"), ("ok", "ok"), ("none", "none")]
WHOLE = HEAD + "0 begin c swap 0 -5\n3 begin q take\n0 end 1\n3 end none\n5 begin a write 10\n5 end ok\n0 begin n read\n"


class NotesTest(unittest.TestCase):
    def there_and_back(self, things, events, text):
        tale = make_tale(things, events)
        kept = copy.deepcopy(tale)
        self.assertEqual(show_tale(tale), text)
        self.assertEqual(tale, kept)
        self.assertEqual(repr(read_tale(text)), repr(tale))

    def refused(self, text):
        with self.subTest(text=text):
            with self.assertRaises(NoTale):
                read_tale(text)


class ThereAndBackTest(NotesTest):
    def test_the_text_without_signs(self):
        self.there_and_back([], [], "")

    def test_things_alone(self):
        self.there_and_back(THINGS, [], HEAD)
        self.there_and_back([("abcdefgh", "set"), ("abc", "cell")], [], "thing abc cell\nthing abcdefgh set\n")

    def test_six_things(self):
        self.there_and_back([(name, "cell") for name in "fedcba"], [],
                            "".join([f"thing {name} cell\n" for name in "abcdef"]))

    def test_each_begin(self):
        for hand in range(6):
            for name, verb, worth, words in BEGINS:
                self.there_and_back(THINGS, [("begin", hand, name, verb, worth)], f"{HEAD}{hand} begin {words}\n")

    def test_each_end(self):
        for hand in range(6):
            for answer, word in ANSWERS:
                self.there_and_back(THINGS, [("begin", hand, "a", "read", None), ("end", hand, answer)],
                                    f"{HEAD}{hand} begin a read\n{hand} end {word}\n")

    def test_a_whole_tale(self):
        events = [("begin", 0, "c", "swap", (0, -5)), ("begin", 3, "q", "take", None), ("end", 0, 1),
                  ("end", 3, "none"), ("begin", 5, "a", "write", 10), ("end", 5, "ok"),
                  ("begin", 0, "n", "read", None)]
        self.there_and_back(THINGS, events, WHOLE)

    def test_names_that_are_words_of_lines(self):
        names = ["thing", "begin", "end", "read", "ok", "none"]
        events = [("begin", 0, "thing", "read", None), ("begin", 1, "end", "read", None), ("end", 0, "none"),
                  ("begin", 0, "begin", "read", None), ("begin", 2, "read", "read", None)]
        head = "".join([f"thing {name} counter\n" for name in sorted(names)])
        self.there_and_back([(name, "counter") for name in names], events,
                            head + "0 begin thing read\n1 begin end read\n0 end none\n0 begin begin read\n"
                            "2 begin read read\n")

    def test_twenty_four_deeds(self):
        self.there_and_back(THINGS, [("begin", 1, "a", "read", None), ("end", 1, 2)] * 24,
                            HEAD + "1 begin a read\n1 end 2\n" * 24)

    def test_all_short_rows_of_events(self):
        lines = [(("begin", 0, "q", "put", 7), "0 begin q put 7\n"), (("begin", 1, "a", "read", None),
                 "1 begin a read\n"), (("end", 0, "ok"), "0 end ok\n"), (("end", 1, -8), "1 end -8\n")]
        for many in range(6):
            for row in itertools.product(lines, repeat=many):
                self.short_row([line[0] for line in row], HEAD + "".join([line[1] for line in row]))

    def short_row(self, events, text):
        try:
            make_tale(THINGS, events)
        except NoTale:
            with self.assertRaises(NoTale, msg=text):
                read_tale(text)
        else:
            self.there_and_back(THINGS, events, text)


class RefusedTextsTest(NotesTest):
    def refused_event(self, line):
        self.refused(f"{HEAD}{line}\n")
        self.refused(f"{HEAD}0 begin c swap 0 1\n{line}\n")

    def test_line_feeds(self):
        self.refused(WHOLE[:-1])
        self.refused(HEAD[:-1])
        self.refused("thing a cell")
        self.refused("\n")
        self.refused("\n\n")
        self.refused("\n" + WHOLE)
        self.refused(WHOLE + "\n")
        self.refused(HEAD + "\n" + WHOLE[len(HEAD):])
        self.refused(WHOLE.replace("\n", "\r\n"))
        for sign in ["\r", "\x0b", "\x0c", "\x1c", "\x85", "\u2028", " ", ""]:
            self.refused(WHOLE.replace("\n", sign))
            self.refused(HEAD + "0 begin a read" + sign + "1 begin a read\n")
            self.refused(HEAD[:-1] + sign)

    def test_other_blanks(self):
        for line in WHOLE.split("\n")[:-1]:
            for worse in [" " + line, line + " ", line.replace(" ", "  ", 1), line.replace(" ", "\t"),
                          line.replace(" ", ""), line.replace(" ", "\u00a0"), "  ".join(line.rsplit(" ", 1)),
                          "\t" + line, line + "\t"]:
                self.refused(WHOLE.replace(line + "\n", worse + "\n"))
        self.refused(" ")
        self.refused(" \n")
        self.refused(WHOLE + " ")
        self.refused(WHOLE + " \n")

    def test_numbers_in_other_ways(self):
        for number in ["00", "01", "007", "+1", "+0", "-0", "-00", "-01", "--1", "-", "+", "", "1.0", "1e1", "1_0", "0x1",
                       "1-", "- 1", "\u0661", "\u00b2", "\uff11", "\u22121", "one", "True", "None", "-ok", "0" * 14]:
            self.refused(f"{HEAD}0 begin a write {number}\n")
            self.refused(f"{HEAD}0 begin c swap {number} 1\n")
            self.refused(f"{HEAD}0 begin c swap 1 {number}\n")
            self.refused(f"{HEAD}0 begin a read\n0 end {number}\n")
            self.refused(f"{HEAD}{number} begin a read\n")
            self.refused(f"{HEAD}0 begin a read\n1 begin a read\n{number} end 0\n")

    def test_things_lines_not_rising(self):
        self.refused("thing b cell\nthing a cell\n")
        self.refused("thing a cell\nthing c cell\nthing b cell\n")
        self.refused("thing ab cell\nthing a cell\n")
        self.refused("thing a cell\nthing a cell\n")
        self.refused("thing a cell\nthing a set\n")

    def test_things_lines_behind_events(self):
        self.refused("thing a cell\n0 begin a read\nthing b cell\n")
        self.refused("0 begin a read\nthing a cell\n")
        self.refused("thing a cell\n0 begin a read\nthing b cell\n0 end 0\n")

    def test_other_things_lines(self):
        for line in ["thing", "thing a", "thing a cell cell", "Thing a cell", "things a cell", "a cell", "thing cell a",
                     "thing a Cell", "thing a stack", "thing A cell", "thing abcdefghi cell", "thing a1 cell",
                     "thing  cell", "thing a ", "thing a cell 0", "0 thing a cell", "thing \u00e9 cell"]:
            self.refused(line + "\n")
            self.refused("thing a register\n" + line + "\n")

    def test_other_events_lines(self):
        for line in ["1", "1 begin", "1 begin a", "1 begin a read 0", "1 begin a read None", "1 begin a write",
                     "1 begin a write 1 2", "1 begin a write ok", "1 begin c swap", "1 begin c swap 1",
                     "1 begin c swap 1 2 3", "1 begin c swap (1, 2)", "1 begin c swap 1,2", "1 begin q take 1",
                     "1 begin q read", "1 begin b read", "1 begin A read", "1 begin a Read", "1 start a read",
                     "1 BEGIN a read", "begin 1 a read", "begin a read", "1 a read", "1 begin read a", "1 end", "0 end",
                     "0 end 1 2", "0 end OK", "0 end Ok", "0 end None", "0 end nothing", "0 end ok none", "0 END 1",
                     "0 ends 1", "end 0 1", "0 end 'ok'", "0 0 end 1", "# 0 end 1", "0 end a read", "x begin a read",
                     "ok begin a read", "none end 1"]:
            self.refused_event(line)

    def test_rows_of_events_that_are_no_tale(self):
        for lines in ["0 end 0\n", "0 begin a read\n0 begin a read\n", "0 begin a read\n1 end 0\n",
                      "0 begin a read\n0 end 0\n0 end 0\n"]:
            self.refused(HEAD + lines)
        self.refused("0 begin a read\n")
        self.refused("0 end 0\n")

    def test_bounds_gone_beyond(self):
        for number in ["1000000001", "-1000000001", "1000000000000", "9" * 5000, "-" + "9" * 5000]:
            self.refused(f"{HEAD}0 begin a write {number}\n")
            self.refused(f"{HEAD}0 begin c swap {number} 1\n")
            self.refused(f"{HEAD}0 begin c swap 1 {number}\n")
        for number in ["1000000000001", "-1000000000001", "10000000000000", "9" * 5000, "-" + "9" * 5000]:
            self.refused(f"{HEAD}0 begin a read\n0 end {number}\n")
        for hand in ["6", "7", "10", "-1", "9" * 5000]:
            self.refused(f"{HEAD}{hand} begin a read\n")
            self.refused(f"{HEAD}{hand} begin a read\n{hand} end 0\n")
        self.refused(HEAD + "1 begin a read\n1 end 2\n" * 25)
        self.refused(HEAD + "1 begin a read\n1 end 2\n" * 24 + "0 begin a read\n")
        self.refused("".join([f"thing {name} cell\n" for name in "abcdefg"]))

    def test_each_small_change_of_a_text(self):
        """Whatever is read is written as that very text."""
        signs = " \n\t-+0195abe_"
        texts = [WHOLE[:at] + WHOLE[at + 1:] for at in range(len(WHOLE))]
        texts += [WHOLE[:at] + sign + WHOLE[at:] for at in range(len(WHOLE) + 1) for sign in signs]
        texts += [WHOLE[:at] + sign + WHOLE[at + 1:] for at in range(len(WHOLE)) for sign in signs]
        for text in texts:
            try:
                tale = read_tale(text)
            except NoTale:
                continue
            self.assertEqual(show_tale(tale), text)
            self.assertEqual(make_tale(list(tale[0]), list(tale[1])), tale)


if __name__ == "__main__":
    unittest.main()
