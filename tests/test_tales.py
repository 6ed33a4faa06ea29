import copy
import itertools
import unittest

from strange import no_numbers, no_texts
from talejudge.errors import NoTale
from talejudge.tales import deeds, make_tale

TOP = 10 ** 9
FAR = 10 ** 12
THINGS = [("s", "set"), ("a", "register"), ("q", "queue"), ("c", "cell"), ("n", "counter")]
RISING = (("a", "register"), ("c", "cell"), ("n", "counter"), ("q", "queue"), ("s", "set"))
# One begin for each verb of each kind.
BEGINS = [("a", "write", 1), ("a", "read", None), ("n", "add", -2), ("n", "read", None), ("q", "put", 3),
          ("q", "take", None), ("s", "put", 4), ("s", "cut", 5), ("s", "has", 6), ("c", "write", 7),
          ("c", "swap", (8, -9)), ("c", "read", None)]


def begin(hand, name="a", verb="read", worth=None):
    return ("begin", hand, name, verb, worth)


def end(hand, answer=0):
    return ("end", hand, answer)


class TaleTest(unittest.TestCase):
    def made(self, things, events, expected):
        told = make_tale(things, events)
        self.assertEqual(repr(told), repr(expected))

    def refused(self, things, events):
        with self.subTest(things=things, events=events):
            with self.assertRaises(NoTale):
                make_tale(things, events)


class MakeTaleTest(TaleTest):
    def test_no_things_and_no_events(self):
        self.made([], [], ((), ()))

    def test_things_without_deeds(self):
        self.made([("b", "queue")], [], ((("b", "queue"),), ()))

    def test_things_in_any_order(self):
        for things in itertools.permutations(THINGS):
            self.made(list(things), [], (RISING, ()))

    def test_things_rise_by_names_as_texts(self):
        names = ["b", "ab", "aa", "abcdefgh", "z", "a"]
        kinds = ["set", "cell", "queue", "register", "counter", "set"]
        rising = (("a", "set"), ("aa", "queue"), ("ab", "cell"), ("abcdefgh", "register"), ("b", "set"),
                  ("z", "counter"))
        self.made(list(zip(names, kinds)), [], (rising, ()))

    def test_things_of_one_kind(self):
        self.made([("b", "set"), ("a", "set")], [], ((("a", "set"), ("b", "set")), ()))

    def test_each_deed_of_each_kind(self):
        events = []
        for number, deed in enumerate(BEGINS):
            events.append(begin(number % 6, *deed))
            events.append(end(number % 6, "ok"))
        self.made(THINGS, events, (RISING, tuple(events)))

    def test_events_stay_in_their_order(self):
        events = [begin(5, "q", "take"), begin(0), end(5, "none"), begin(5), end(0, 3), end(5, 1)]
        self.made(THINGS, events, (RISING, tuple(events)))

    def test_open_deeds(self):
        events = [begin(1), begin(0), end(1), begin(1), begin(2)]
        self.made(THINGS, events, (RISING, tuple(events)))

    def test_all_hands(self):
        events = [begin(hand) for hand in [3, 0, 5, 1, 4, 2]]
        self.made(THINGS, events, (RISING, tuple(events)))

    def test_answers_that_are_numbers_or_words_of_any_deed(self):
        for answer in [0, 1, -1, TOP + 1, FAR, -FAR, "ok", "none"]:
            for deed in BEGINS:
                events = [begin(2, *deed), end(2, answer)]
                self.made(THINGS, events, (RISING, tuple(events)))

    def test_six_things(self):
        things = [(name, "cell") for name in "fedcba"]
        self.made(things, [], (tuple(reversed(things)), ()))

    def test_twenty_four_deeds_of_one_hand(self):
        events = [begin(0), end(0)] * 24
        self.made(THINGS, events, (RISING, tuple(events)))

    def test_twenty_four_deeds_of_six_hands_with_open_ones(self):
        events = [event for hand in range(6) for event in [begin(hand), end(hand)] * 3]
        events += [begin(hand) for hand in range(6)]
        self.made(THINGS, events, (RISING, tuple(events)))

    def test_bounds_of_worths(self):
        events = [begin(0, "a", "write", TOP), begin(1, "a", "write", -TOP), begin(2, "c", "swap", (-TOP, TOP))]
        self.made(THINGS, events, (RISING, tuple(events)))

    def test_names_of_one_and_of_eight_letters(self):
        events = [begin(0, "abcdwxyz"), begin(1, "z")]
        things = (("abcdwxyz", "register"), ("z", "register"))
        self.made([things[1], things[0]], events, (things, tuple(events)))

    def test_what_is_handed_in_stays_and_may_be_changed_behind(self):
        things, events = list(THINGS), [begin(0), end(0, 3), begin(1, "c", "swap", (1, 2))]
        elder = copy.deepcopy((things, events))
        told = make_tale(things, events)
        self.assertEqual((things, events), elder)
        kept = copy.deepcopy(told)
        things.append(("z", "cell"))
        things[0] = ("y", "cell")
        events[0] = begin(4)
        events.pop()
        self.assertEqual(told, kept)
        things.clear()
        events.clear()
        self.assertEqual(told, kept)

    def test_what_is_refused_stays_as_it_is(self):
        things, events = list(THINGS), [begin(0), begin(0)]
        with self.assertRaises(NoTale):
            make_tale(things, events)
        self.assertEqual((things, events), (THINGS, [begin(0), begin(0)]))


class NoThingsOfTalesTest(TaleTest):
    def test_a_name_twice(self):
        self.refused([("a", "cell"), ("a", "cell")], [])
        self.refused([("a", "cell"), ("a", "queue")], [])
        self.refused([("b", "set"), ("a", "cell"), ("c", "set"), ("a", "set")], [])

    def test_seven_things(self):
        self.refused([(name, "cell") for name in "abcdefg"], [])

    def test_names_that_are_none(self):
        for name in ["", "abcdefghi", "A", "aB", "a1", "1", "a_b", "a b", " ", "a ", "a\n", "a-", "{", "`", "\u00e9",
                     "\u0430", "\u00aa"]:
            self.refused([(name, "cell")], [])
        for name in no_texts():
            self.refused([(name, "cell")], [])
            self.refused([("a", "cell"), (name, "cell")], [])

    def test_kinds_that_are_none(self):
        for kind in ["", "Register", "registers", "cell ", "read", "a"] + no_texts():
            self.refused([("a", kind)], [])

    def test_other_forms_of_things(self):
        for thing in [["a", "cell"], ("a",), (), ("a", "cell", "cell"), ("a", "cell", None), "ab", ("cell", "a"),
                      {"a": "cell"}, (("a", "cell"),), [("a", "cell")]] + no_texts() + no_numbers():
            self.refused([thing], [])
            self.refused([("b", "cell"), thing], [])


class NoEventsOfTalesTest(TaleTest):
    def wrong(self, *events):
        self.refused(THINGS, list(events))

    def test_a_begin_twice(self):
        self.wrong(begin(0), begin(0))
        self.wrong(begin(0), end(0), begin(0), begin(0))
        self.wrong(begin(0), begin(1), begin(0))
        self.wrong(begin(0), end(0), begin(0), begin(1), end(1), begin(0), end(0))

    def test_an_end_ahead_of_a_begin(self):
        self.wrong(end(0))
        self.wrong(end(0), begin(0))
        self.wrong(begin(0), end(0), end(0))
        self.wrong(begin(0), end(1))
        self.wrong(begin(0), end(0), begin(1), end(0))

    def test_twenty_five_deeds(self):
        self.wrong(*[begin(0), end(0)] * 25)
        self.wrong(*[begin(0), end(0)] * 24 + [begin(1)])

    def test_hands_that_are_none(self):
        for hand in [-1, 6, 7, 10 ** 30, None] + no_numbers():
            self.wrong(begin(hand))
            self.wrong(begin(hand), end(hand))
            self.wrong(begin(0), begin(1), end(hand))

    def test_answers_that_are_none(self):
        for answer in [FAR + 1, -FAR - 1, 10 ** 400, None, "", "Ok", "ok ", "NONE", "null", "on", "okn", ("ok",)]:
            self.wrong(begin(0), end(0, answer))
        for answer in no_numbers():
            if answer != "ok":
                self.wrong(begin(0), end(0, answer))

    def test_names_that_are_not_among_the_things(self):
        for name in ["b", "", "A", "aa", "register"] + no_texts():
            self.wrong(begin(0, name))
        self.refused([], [begin(0)])
        self.refused([("b", "register")], [begin(0)])

    def test_deeds_of_another_kind(self):
        for name, verb, worth in BEGINS:
            for other, kind in THINGS:
                if other != name and (other, verb, worth) not in BEGINS:
                    allowed = {"register": ["read", "write"], "counter": ["read", "add"], "queue": ["put", "take"],
                               "set": ["put", "cut", "has"], "cell": ["read", "write", "swap"]}[kind]
                    if verb not in allowed:
                        self.wrong(begin(0, other, verb, worth))

    def test_verbs_that_are_none(self):
        for verb in ["", "Read", "begin", "end", "read "] + no_texts():
            for worth in [None, 1, (1, 2)]:
                self.wrong(begin(0, "a", verb, worth))

    def test_worths_that_are_none(self):
        for worth in [TOP + 1, -TOP - 1, None, (1, 2)] + no_numbers():
            self.wrong(begin(0, "a", "write", worth))
            self.wrong(begin(0, "c", "swap", (worth, 1)))
            self.wrong(begin(0, "c", "swap", (1, worth)))
        for worth in [None, 1, [1, 2]] + no_numbers():
            self.wrong(begin(0, "c", "swap", worth))
        for worth in [0, 1, (1, 2)] + no_numbers():
            self.wrong(begin(0, "a", "read", worth))

    def test_events_of_other_lengths(self):
        self.wrong(("begin", 0, "a", "read"))
        self.wrong(("begin", 0, "a", "read", None, None))
        self.wrong(("begin", 0, "c", "swap", 1, 2))
        self.wrong(("begin",))
        self.wrong(("begin", 0, 0))
        self.wrong(begin(0), ("end", 0))
        self.wrong(begin(0), ("end", 0, 1, 2))
        self.wrong(begin(0), ("end", 0, 1, None))
        self.wrong(begin(0), ("end", 0, "a", "read", None))
        self.wrong(())

    def test_events_of_other_words(self):
        for word in ["", "Begin", "start", "END", "begin ", "thing"] + no_texts():
            self.wrong((word, 0, "a", "read", None))
            self.wrong(begin(0), (word, 0, 1))

    def test_a_list_in_the_place_of_a_tuple(self):
        self.wrong(list(begin(0)))
        self.wrong(begin(0), list(end(0)))
        self.wrong(begin(0, "c", "swap", [1, 2]))

    def test_anything_else_among_the_events(self):
        for event in no_numbers() + no_texts() + [("a", "cell"), (begin(0),), "begin", "0 begin a read"]:
            self.wrong(event)
            self.wrong(begin(0), event)
            self.wrong(begin(0), event, end(0))


class DeedsTest(TaleTest):
    def told(self, events, expected):
        self.assertEqual(repr(deeds(make_tale(THINGS, events))), repr(expected))

    def test_no_deeds(self):
        self.told([], [])
        self.assertEqual(deeds(make_tale([], [])), [])

    def test_one_hand(self):
        self.told([begin(0, "a", "write", 5), end(0, "ok"), begin(0), end(0, 5)],
                  [(0, "a", "write", 5, "ok", 0, 1), (0, "a", "read", None, 5, 2, 3)])

    def test_numbers_by_begins_and_places_among_all_events(self):
        self.told([begin(4, "c", "swap", (0, 3)), begin(1, "q", "take"), begin(0, "n", "add", -2), end(1, "none"),
                   begin(1, "s", "has", 9), end(0, 7), end(1, 0), end(4, 1)],
                  [(4, "c", "swap", (0, 3), 1, 0, 7), (1, "q", "take", None, "none", 1, 3),
                   (0, "n", "add", -2, 7, 2, 5), (1, "s", "has", 9, 0, 4, 6)])

    def test_open_deeds_have_no_answer_and_no_end(self):
        self.told([begin(3), begin(2, "q", "put", 0), end(3, 0), begin(3, "a", "write", 1)],
                  [(3, "a", "read", None, 0, 0, 2), (2, "q", "put", 0, None, 1, None),
                   (3, "a", "write", 1, None, 3, None)])

    def test_the_told_list_is_new_each_time(self):
        tale = make_tale(THINGS, [begin(0), end(0, 1), begin(1)])
        kept = copy.deepcopy(tale)
        first = deeds(tale)
        elder = list(first)
        second = deeds(tale)
        self.assertIsNot(first, second)
        first.append("more")
        first[0] = None
        self.assertEqual(second, elder)
        self.assertEqual(deeds(tale), elder)
        self.assertEqual(tale, kept)

    def test_all_short_rows_of_events(self):
        choices = [begin(0, "q", "put", 7), begin(1, "a", "read", None), end(0, "ok"), end(1, 8)]
        for many in range(7):
            for row in itertools.product(choices, repeat=many):
                self.short_row(list(row))

    def short_row(self, events):
        expected = deeds_one_by_one(events)
        if expected is None:
            with self.assertRaises(NoTale, msg=str(events)):
                make_tale(THINGS, events)
        else:
            self.told(events, expected)


def deeds_one_by_one(events):
    """The deeds, found hand by hand; None where begins and ends do not go by turns."""
    found = []
    for hand in range(6):
        own = [(place, event) for place, event in enumerate(events) if event[1] == hand]
        if [event[0] for place, event in own] != ["begin", "end"] * (len(own) // 2) + ["begin"] * (len(own) % 2):
            return None
        for number in range(0, len(own), 2):
            place, event = own[number]
            ended = own[number + 1] if number + 1 < len(own) else (None, (None, None, None))
            found.append((hand, event[2], event[3], event[4], ended[1][2], place, ended[0]))
    return sorted(found, key=lambda deed: deed[5])


if __name__ == "__main__":
    unittest.main()
