"""The row of ditch ends along the shore, and how its ditches lie to one another."""

from shoretold.errors import BadName, BadShore, Barred, Full, NoDitch, NoPlace, Taken

MOST_DITCHES = 14
LONGEST_NAME = 8


def is_name(text):
    """Whether a text may be a name."""
    if not 1 <= len(text) <= LONGEST_NAME:
        return False
    return all(["a" <= sign <= "z" for sign in text])


def ask_name(name):
    """Refuse what may not be a name."""
    if not is_name(name):
        raise BadName(f"no name of 1 to {LONGEST_NAME} small letters: {name!r}")


def ask_ditch(row, name):
    """Refuse a name that is no ditch of the row."""
    if name not in row:
        raise NoDitch(f"no ditch {name!r} in the row")


def ask_twice(row):
    """Refuse a row in which some name does not stand just twice."""
    many = {}
    for name in row:
        many[name] = many.get(name, 0) + 1
    for name in many:
        if many[name] != 2:
            raise BadShore(f"{name} does not stand twice in the row")


def ask_unbarred(row):
    """Refuse a row with three ditches of which each two cross."""
    pairs = crossings(row)
    # The pairs rise, so the first triple that is met is the first of all.
    for one, other in pairs:
        for middle, last in pairs:
            if middle == other and (one, last) in pairs:
                raise Barred((one, other, last))


def checked(row):
    """A copy of a row that is good."""
    for name in row:
        ask_name(name)
    ask_twice(row)
    if len(ditches(row)) > MOST_DITCHES:
        raise Full(f"more than {MOST_DITCHES} ditches")
    ask_unbarred(row)
    return list(row)


def ditches(row):
    """All names, rising."""
    return sorted(set(row))


def ends(row, name):
    """The pair of a ditch's places."""
    ask_ditch(row, name)
    found = [at for at, end in enumerate(row) if end == name]
    return (found[0], found[1])


def spans(row):
    """The pairs of places of all ditches, by name, rising."""
    return {name: ends(row, name) for name in ditches(row)}


def lie_of(here, there):
    """How the ditch with the one pair of places lies to that with the other pair."""
    if here == there:
        return "same"
    first = there[0] < here[0] < there[1]
    last = there[0] < here[1] < there[1]
    if first != last:
        return "cross"
    if first:
        return "within"
    # Neither end lies between the other's two, so both of those lie between these, or none does.
    return "around" if here[0] < there[0] < here[1] else "apart"


def lie(row, one, other):
    """How the ditch one lies to the ditch other."""
    return lie_of(ends(row, one), ends(row, other))


def crossings(row):
    """All pairs of ditches that cross, each pair rising, and the list too."""
    span = spans(row)
    return [
        (one, other)
        for one in span
        for other in span
        if one < other and lie_of(span[one], span[other]) == "cross"
    ]


def turned(row, by):
    """The row from the stone carried on by so many ends."""
    if not 0 <= by <= len(row):
        raise NoPlace(f"the row has {len(row)} ends, the stone is not carried on by {by}")
    return row[by:] + row[:by]


def mirrored(row):
    """The row read the other way round."""
    return row[::-1]


def put_in(row, name, at, to):
    """The row with a ditch more, its ends at two gaps of the row as it is."""
    ask_name(name)
    if name in row:
        raise Taken(f"there is a ditch {name}")
    if len(ditches(row)) >= MOST_DITCHES:
        raise Full(f"there are {MOST_DITCHES} ditches")
    if not 0 <= at <= to <= len(row):
        raise NoPlace(f"no gaps {at} and {to} behind one another in a row of {len(row)} ends")
    more = row[:at] + [name] + row[at:to] + [name] + row[to:]
    ask_unbarred(more)
    return more


def left_out(row, name):
    """The row without a ditch."""
    ask_ditch(row, name)
    return [end for end in row if end != name]
