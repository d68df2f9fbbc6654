"""Two islands: whether they are the same in shape, and whether they have the same plots."""

from shoretold.shore import ditches, lie, mirrored, turned
from shoretold.sides import parting


def paired(row, other):
    """The pairs of names by which two rows of one length read alike, rising, None where they don't."""
    there = {}
    # Each name stands twice in either row, so none is paired with two.
    for name, partner in zip(row, other):
        if there.setdefault(name, partner) != partner:
            return None
    return sorted(there.items())


def same(row, other):
    """The pairs of names, rising, of the first way in which two rows read alike, None where there is none."""
    if len(row) != len(other):
        return None
    for there in (other, mirrored(other)):
        # The stone carried on by all ends lies where it lay: so an empty row is read, too.
        for by in range(len(there) + 1):
            pairs = paired(row, turned(there, by))
            if pairs is not None:
                return pairs
    return None


def unlike(row, other):
    """None where two rows have the same plots, else the first name, or pair of names, that tells them apart."""
    strange = parting(row, other)
    if strange:
        return ("ditch", strange[0])
    names = ditches(row)
    for one in names:
        for last in names:
            if one < last and lie(row, one, last) != lie(other, one, last):
                return ("lie", one, last)
    return None
