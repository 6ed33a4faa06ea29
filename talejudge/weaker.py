"""Weaker strictnesses of one register that one hand alone writes: regular and safe tales, and turns about."""

from talejudge.errors import NotPlain
from talejudge.zones import ended_reads, plain_deeds, writers


def lone_writer_deeds(tale):
    told = plain_deeds(tale)
    if len(set([deed[0] for deed in told if deed[2] == "write"])) > 1:
        raise NotPlain("more than one hand writes")
    return told


def is_regular(tale):
    told = lone_writer_deeds(tale)
    written = writers(told)
    for number, read in ended_reads(told):
        # None, of a worth that nobody writes, is among no writes.
        if written.get(read[4]) not in writes_beside(written, read) + [last_ahead(written, read)]:
            return False
    return True


def is_safe(tale):
    told = lone_writer_deeds(tale)
    written = writers(told)
    for number, read in ended_reads(told):
        if len(writes_beside(written, read)) == 0 and written.get(read[4]) != last_ahead(written, read):
            return False
    return True


def writes_beside(written, read):
    begun = [write for write in written.values() if write[0] < read[6]]
    return [write for write in begun if write[1] is None or read[5] < write[1]]


# There is always one: the first write, of 0, ended ahead of all events.
def last_ahead(written, read):
    return max([write for write in written.values() if write[1] is not None and write[1] < read[5]])


def turn_about(tale):
    told = lone_writer_deeds(tale)
    written = writers(told)
    reads = [(number, read) for number, read in ended_reads(told) if read[4] in written]
    for number, read in reads:
        for behind, other in reads:
            # One hand's writes stand in the order of their begins.
            if read[6] < other[5] and written[other[4]][0] < written[read[4]][0]:
                return (number, behind)
    return None
