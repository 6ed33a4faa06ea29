"""Dealings in short words, dealings by chance, and their words told by going through everything."""

import itertools
import random


def dealing(words, begin=0, end=1):
    """rx5: reads 5 of x; wx5: writes it there."""
    verbs = {"r": "read", "w": "write"}
    parts = [word.partition(next(sign for sign in word if sign in "-0123456789")) for word in words.split()]
    return (begin, end, tuple([(verbs[name[0]], name[1:], int(sign + rest)) for name, sign, rest in parts]))


def dealings_of(rows):
    """All at once: none ends ahead of another one's begin."""
    return [dealing(words) for words in rows]


class Book:
    """Dealings and versions; each word on them is told by the document's words alone."""

    def __init__(self, dealings, versions, timed):
        self.dealings, self.versions, self.timed = dealings, versions, timed
        self.numbers = range(len(dealings))

    def writes(self, number):
        return [(name, worth) for verb, name, worth in self.dealings[number][2] if verb == "write"]

    def early_reads(self, number):
        parts = self.dealings[number][2]
        return [(name, worth) for place, (verb, name, worth) in enumerate(parts) if verb == "read"
                and name not in [other for sort, other, some in parts[:place] if sort == "write"]]

    def reasons(self):
        found = set()
        for one, other in itertools.permutations(self.numbers, 2):
            for name, row in self.versions.items():
                for elder, newer in zip([0, *row], row):
                    if (name, newer) in self.writes(other):
                        found |= {(one, other, "after", name)} if (name, elder) in self.writes(one) else set()
                        found |= {(one, other, "missed", name)} if (name, elder) in self.early_reads(one) else set()
            found |= {(one, other, "seen", part[0]) for part in self.early_reads(other) if part in self.writes(one)}
            if self.timed and self.dealings[one][1] < self.dealings[other][0]:
                found.add((one, other, "time", None))
        return sorted(found)

    def lost(self):
        for number in self.numbers:
            parts = self.dealings[number][2]
            for place, (verb, name, worth) in enumerate(parts):
                own = [some for sort, other, some in parts[:place] if (sort, other) == ("write", name)]
                late = [some for sort, other, some in parts[place:] if (sort, other) == ("write", name)]
                known = [0] + [some for one in self.numbers for other, some in self.writes(one) if other == name]
                if verb == "read" and (worth not in known or own and own[-1] != worth or worth in late):
                    return ("lost", number, place)
        return None

    def orders(self):
        pairs = {reason[:2] for reason in self.reasons()}
        return [list(row) for row in itertools.permutations(self.numbers)
                if not any([(other, one) in pairs for one, other in itertools.combinations(row, 2)])]

    def rings(self):
        """All rings of at most three reasons, and one of each greater set of dealings in a row."""
        found = []
        reasons = self.reasons()
        for many in range(2, len(self.numbers) + 1):
            for row in itertools.permutations(self.numbers, many):
                steps = [[reason for reason in reasons if reason[:2] == pair] for pair in zip(row, row[1:] + row[:1])]
                found += [list(ring) for ring in itertools.product(*steps)][:None if many <= 3 else 1]
        return found


def chance_book(source, most_dealings, most_parts):
    """Mostly what a store tells that does one dealing behind the other; versions mostly in that row."""
    many = source.randint(1, most_dealings)
    row = source.sample(range(many), many)
    told, store, versions, worths = {}, {}, {}, source.sample(range(1, 100), 60)
    faults = source.choice([0, 0.05, 0.2])
    for number in row:
        parts = []
        for place in range(source.randint(0, most_parts)):
            name = source.choice(["x", "x", "y"])
            if source.random() < 0.4:
                store[name] = source.choice([-1, 1]) * worths.pop()
                versions.setdefault(name, []).append(store[name])
                parts.append(("write", name, store[name]))
            else:
                any_one = source.choice([0, 100, 7] + versions.get("x", []) + versions.get("y", []))
                elder = ([0, 0] + versions.get(name, []))[-2]
                heard = source.choice([elder, elder, any_one]) if source.random() < faults else store.get(name, 0)
                parts.append(("read", name, heard))
        begin = max(source.choice([2 * row.index(number), source.randrange(20)]), 0)
        told[number] = (begin, begin + source.randint(1, 8), tuple(parts))
    dealings = [told[number] for number in range(many)]
    if source.random() < faults:
        versions = {name: turned(source, dealings, name, row) for name, row in versions.items()}
    return dealings, versions


def turned(source, dealings, name, row):
    """Two neighbours the other way about, where they are not one dealing's own."""
    place = source.randrange(len(row))
    pair = row[place:place + 2]
    for begin, end, parts in dealings:
        if all([("write", name, worth) in parts for worth in pair]):
            return row
    return row[:place] + pair[::-1] + row[place + 2:]


def chance_books(seed, many, most_dealings, most_parts):
    source = random.Random(seed)
    return [chance_book(source, most_dealings, most_parts) for number in range(many)]
