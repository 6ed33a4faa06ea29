"""Zones: one register whose writes have unlike worths, judged by when each worth was in it."""

from talejudge.basics import is_whole
from talejudge.errors import NotPlain
from talejudge.tales import deeds

# The register holds 0 at first, as if that had been written ahead of all events.
FIRST_WRITE = (-2, -1)


def plain_deeds(tale):
    told = deeds(tale)
    if [kind for name, kind in tale[0]] != ["register"] or not are_plain(told):
        raise NotPlain("this is no tale of one register with unlike worths")
    return told


def are_plain(told):
    worths = [deed[3] for deed in told if deed[2] == "write"]
    if 0 in worths or len(set(worths)) < len(worths):
        return False
    return all([deed[6] is None or is_answered(deed) for deed in told])


def is_answered(deed):
    if deed[2] == "write":
        return deed[4] == "ok"
    return is_whole(deed[4])


def writers(told):
    found = {0: FIRST_WRITE}
    for deed in told:
        if deed[2] == "write":
            found[deed[3]] = deed[5:]
    return found


def ended_reads(told):
    return [(number, deed) for number, deed in enumerate(told) if deed[2] == "read" and deed[6] is not None]


def zones(tale):
    told = plain_deeds(tale)
    found = []
    for worth, write in writers(told).items():
        spans = [write] + [read[5:] for number, read in ended_reads(told) if read[4] == worth]
        # An open write that no ended read heard of need never have been done.
        if write[1] is not None or len(spans) > 1:
            found.append(zone_of(worth, spans))
    return sorted(found, key=lambda zone: zone[1])


def zone_of(worth, spans):
    least = min([end for begin, end in spans if end is not None])
    greatest = max([begin for begin, end in spans])
    if least < greatest:
        return (worth, least, greatest, "on")
    return (worth, greatest, least, "in")


def collision(tale):
    told = plain_deeds(tale)
    written = writers(told)
    for number, read in ended_reads(told):
        if read[4] not in written or read[6] < written[read[4]][0]:
            return ("lost", number)
    return first_pair(zones(tale))


def first_pair(found):
    # The zones are by low: so of each kind the first pair that is met is the one to tell.
    for kind in ("on", "in"):
        for zone in of_kind(found, kind):
            for other in of_kind(found, "on"):
                if collide(zone, other):
                    return (kind, zone[0], other[0])
    return None


def of_kind(found, kind):
    return [zone for zone in found if zone[3] == kind]


# Whether the two are told in this row: the other one is of kind on.
def collide(zone, other):
    if zone[3] == "in":
        return other[1] < zone[1] and zone[2] < other[2]
    # The one with the lesser low is told first; they overlap where the other's low is ahead of its high.
    return zone[1] < other[1] < zone[2]
