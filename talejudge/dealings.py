"""Dealings: rows of reads and writes, each taken as one, judged by the reasons that put one ahead of another."""

from talejudge.basics import is_name, is_tuple_of, is_whole, is_worth
from talejudge.errors import NoDealings
from talejudge.orders import keeps_to

MOST_DEALINGS = 12
VERBS = ("read", "write")


# Asked of anything as dealings and versions.
def check_dealings(dealings, versions):
    if not isinstance(dealings, list) or not 1 <= len(dealings) <= MOST_DEALINGS:
        raise NoDealings("there are 1 to 12 dealings")
    if not all([is_dealing(dealing) for dealing in dealings]):
        raise NoDealings("something else stands among the dealings")
    if not isinstance(versions, dict) or not all([is_version(name, row) for name, row in versions.items()]):
        raise NoDealings("something else stands among the versions")
    if not fit_together(dealings, versions):
        raise NoDealings("these are not the versions of these dealings")


def is_dealing(dealing):
    if not is_tuple_of(dealing, 3) or not is_whole(dealing[0]) or not is_whole(dealing[1]):
        return False
    if not 0 <= dealing[0] < dealing[1] or not isinstance(dealing[2], tuple):
        return False
    return all([is_part(deed) for deed in dealing[2]])


def is_part(deed):
    if not is_tuple_of(deed, 3) or not isinstance(deed[0], str) or deed[0] not in VERBS:
        return False
    return is_name(deed[1]) and is_worth(deed[2])


def is_version(name, row):
    return is_name(name) and isinstance(row, list) and all([is_worth(worth) for worth in row])


def fit_together(dealings, versions):
    written = {}
    for dealing in dealings:
        for name, own in written_by(dealing).items():
            written.setdefault(name, []).extend(own)
            # The row's worths that are the dealing's own, in the row's order.
            if own != [worth for worth in versions.get(name, []) if worth in own]:
                return False
    if sorted(written) != sorted(versions):
        return False
    return all([is_whole_row(versions[name], worths) for name, worths in written.items()])


def written_by(dealing):
    found = {}
    for verb, name, worth in dealing[2]:
        if verb == "write":
            found.setdefault(name, []).append(worth)
    return found


def is_whole_row(row, worths):
    return sorted(row) == sorted(worths) and 0 not in row and len(set(row)) == len(row)


def writers(dealings):
    found = {}
    for number, dealing in enumerate(dealings):
        for verb, name, worth in dealing[2]:
            if verb == "write":
                found[(name, worth)] = number
    return found


# For each version of a name the dealing that writes the next one.
def next_writers(dealings, versions):
    written = writers(dealings)
    found = {}
    for name, row in versions.items():
        for worth, newer in zip([0] + row, row):
            found[(name, worth)] = written[(name, newer)]
    return found


def reads_ahead(dealing):
    own = {}
    found = []
    for verb, name, worth in dealing[2]:
        if verb == "write":
            own[name] = True
        elif name not in own:
            found.append((name, worth))
    return found


def reasons(dealings, versions, timed):
    check_dealings(dealings, versions)
    found = reasons_of_versions(dealings, versions) + reasons_of_reads(dealings, versions)
    if timed:
        found.extend(reasons_of_time(dealings))
    # A dealing has no reasons to itself, and 0 is written by none.
    return sorted(set([reason for reason in found if reason[0] != reason[1] and None not in reason[:2]]))


def reasons_of_versions(dealings, versions):
    written = writers(dealings)
    found = []
    for version, other in next_writers(dealings, versions).items():
        found.append((written.get(version), other, "after", version[0]))
    return found


def reasons_of_reads(dealings, versions):
    written = writers(dealings)
    behind = next_writers(dealings, versions)
    found = []
    for number, dealing in enumerate(dealings):
        for version in reads_ahead(dealing):
            found.append((written.get(version), number, "seen", version[0]))
            found.append((number, behind.get(version), "missed", version[0]))
    return found


def reasons_of_time(dealings):
    found = []
    for one, dealing in enumerate(dealings):
        for other, later in enumerate(dealings):
            if dealing[1] < later[0]:
                found.append((one, other, "time", None))
    return found


def first_lost(dealings):
    written = writers(dealings)
    for number, dealing in enumerate(dealings):
        own = {}
        for place, deed in enumerate(dealing[2]):
            if deed[0] == "write":
                own[deed[1]] = deed[2]
            elif is_lost(number, deed, own, written):
                return ("lost", number, place)
    return None


def is_lost(number, deed, own, written):
    if deed[1] in own:
        return own[deed[1]] != deed[2]
    # What the dealing itself writes, it writes behind this deed.
    return deed[2] != 0 and written.get((deed[1], deed[2])) in (None, number)


def judged_dealings(dealings, versions, timed):
    found = reasons(dealings, versions, timed)
    lost = first_lost(dealings)
    if lost is not None:
        return lost
    order = []
    left = list(range(len(dealings)))
    while len(left) > 0:
        held_up = [other for one, other, kind, name in found if one in left]
        ready = [number for number in left if number not in held_up]
        if len(ready) == 0:
            return ("ring", ring_among(left, found))
        order.append(ready[0])
        left.remove(ready[0])
    return ("order", order)


# Each of the dealings left has a reason from another one left: walked back, these come to a dealing once more.
def ring_among(left, found):
    current = left[0]
    walked = []
    while current not in [other for one, other, kind, name in walked]:
        back = [reason for reason in found if reason[1] == current and reason[0] in left]
        walked.insert(0, back[0])
        current = back[0][0]
    last = [other for one, other, kind, name in walked].index(current)
    return walked[:last + 1]


def is_verdict(dealings, versions, timed, told):
    found = reasons(dealings, versions, timed)
    lost = first_lost(dealings)
    if lost is not None:
        return is_tuple_of(told, 3) and isinstance(told[0], str) and are_numbers(told[1:]) and told == lost
    if not is_tuple_of(told, 2) or not isinstance(told[0], str) or not isinstance(told[1], list):
        return False
    if told[0] == "order":
        return is_order_of(len(dealings), found, told[1])
    return told[0] == "ring" and is_ring(found, told[1])


def are_numbers(values):
    return all([is_whole(value) for value in values])


def is_order_of(many, found, numbers):
    if not are_numbers(numbers) or sorted(numbers) != list(range(many)):
        return False
    return keeps_to([reason[:2] for reason in found], numbers)


def is_ring(found, ring):
    if len(ring) == 0 or not all([is_reason(found, reason) for reason in ring]):
        return False
    ones = [reason[0] for reason in ring]
    others = [reason[1] for reason in ring]
    return others == ones[1:] + ones[:1] and len(set(ones)) == len(ones)


def is_reason(found, value):
    if not is_tuple_of(value, 4) or not are_numbers(value[:2]) or not isinstance(value[2], str):
        return False
    return (value[3] is None or isinstance(value[3], str)) and value in found
