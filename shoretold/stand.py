"""What an island is at one time, and what each deed makes of it: a new stand, while the old one stays."""

from shoretold.errors import BadBank, Bidden, Full, NoBody, NoGround, NoMoot, NoWalker, Taken, Tired
from shoretold.grounds import gate, ground, lies_on, meet, shared
from shoretold.moots import least, toll
from shoretold.plots import at_gap, plots, retold
from shoretold.shore import ask_name, left_out, put_in, turned
from shoretold.sides import across, beyond
from shoretold.thirds import third
from shoretold.walks import between, walk

MOST_WALKERS = 8
MOST_GROUNDS = 6
MOST_MOOTS = 4
MOST_STEPS = 40
OTHER_BANK = {"home": "off", "off": "home"}


class Stand:
    """An island at one time; it is never changed, so many islands and times may have it in common.

    `shore` is the row of ends, `ways` the pair of first plot and tuple of steps of each walker,
    `fences` the list of banks of each ground, `bids` the tuple of names of each moot.
    """

    def __init__(self, shore, ways, fences, bids):
        self.shore = shore
        self.ways = ways
        self.fences = fences
        self.bids = bids


def with_one(some, name, thing):
    """A copy of a dict in which a name has this thing."""
    more = dict(some)
    more[name] = thing
    return more


def without(some, name):
    """A copy of a dict in which a name has nothing."""
    return {other: some[other] for other in some if other != name}


def ask_walker(stand, walker):
    """Refuse a name that is no walker's."""
    if walker not in stand.ways:
        raise NoWalker(f"no walker {walker!r}")


def ask_ground(stand, name):
    """Refuse a name that is no ground's."""
    if name not in stand.fences:
        raise NoGround(f"no ground {name!r}")


def ask_moot(stand, name):
    """Refuse a name that is no moot's."""
    if name not in stand.bids:
        raise NoMoot(f"no moot {name!r}")


def ask_room(some, name, most):
    """Refuse a name for which there is no room beside the others."""
    if len(without(some, name)) >= most:
        raise Full(f"there are {most} others than {name}")


def ask_some(stand, walkers):
    """Refuse a list of nobody, and one with a name that is no walker's."""
    if not walkers:
        raise NoBody("no walker is named")
    for walker in walkers:
        ask_walker(stand, walker)


def way_of(stand, walker):
    """The first plot and the steps of a walker's way."""
    ask_walker(stand, walker)
    return stand.ways[walker]


def place_of(stand, walker):
    """The plot to which a walker's way leads."""
    begin, steps = way_of(stand, walker)
    here = begin
    for name in steps:
        here = across(here, name)
    return here


def places_of(stand, walkers):
    """The places of some walkers."""
    return [place_of(stand, walker) for walker in walkers]


def dug_way(there, way, name, bank):
    """A way behind the digging of a ditch; `there` are all plots with that ditch."""
    begin, steps = way
    first = begin if bank == "home" else across(begin, name)
    # A plot that isn't cut lies on one bank alone, whatever bank the deed tells.
    if first not in there:
        first = across(first, name)
    here = first
    taken = []
    for step in steps:
        if across(here, step) not in there:
            taken.append(name)
            here = across(here, name)
        taken.append(step)
        here = across(here, step)
    return (first, tuple(taken))


def dug_fence(row, there, kept):
    """The banks of a ground in a row with a ditch more, of which all plots are there."""
    return shared(row, [plot for plot in there if lies_on(plot, kept)])


def dug(stand, what):
    """A ditch more."""
    name, at, to, bank = what
    if bank not in OTHER_BANK:
        raise BadBank(f"no bank {bank!r}")
    row = put_in(stand.shore, name, at, to)
    there = plots(row)
    ways = {walker: dug_way(there, stand.ways[walker], name, bank) for walker in stand.ways}
    fences = {fence: dug_fence(row, there, stand.fences[fence]) for fence in stand.fences}
    return Stand(row, ways, fences, stand.bids)


def filled_way(way, name):
    """A way behind the filling of a ditch."""
    begin, steps = way
    return (tuple([other for other in begin if other != name]), tuple([step for step in steps if step != name]))


def filled_fence(kept, name):
    """The banks of a ground behind the filling of a ditch."""
    # A plot on its other banks that lies beyond the ditch has one of the ground's right over it,
    # and is joined with that one.
    return [(other, side) for other, side in kept if other != name]


def filled(stand, what):
    """A ditch less."""
    name = what[0]
    row = left_out(stand.shore, name)
    ways = {walker: filled_way(stand.ways[walker], name) for walker in stand.ways}
    fences = {fence: filled_fence(stand.fences[fence], name) for fence in stand.fences}
    return Stand(row, ways, fences, stand.bids)


def turned_way(row, way, by):
    """A way as it is told from the stone carried on by so many ends."""
    begin, steps = way
    return (retold(row, begin, by), steps)


def turned_fence(kept, stone):
    """The banks of a ground as they are told from the stone on another plot."""
    return [(name, OTHER_BANK[side] if name in stone else side) for name, side in kept]


def carried(stand, what):
    """The stone carried on."""
    by = what[0]
    row = turned(stand.shore, by)
    stone = at_gap(stand.shore, by)
    ways = {walker: turned_way(stand.shore, stand.ways[walker], by) for walker in stand.ways}
    fences = {fence: turned_fence(stand.fences[fence], stone) for fence in stand.fences}
    return Stand(row, ways, fences, stand.bids)


def landed(stand, what):
    """A walker more."""
    walker, gap = what
    ask_name(walker)
    if walker in stand.ways:
        raise Taken(f"there is a walker {walker}")
    ask_room(stand.ways, walker, MOST_WALKERS)
    ways = with_one(stand.ways, walker, (at_gap(stand.shore, gap), ()))
    return Stand(stand.shore, ways, stand.fences, stand.bids)


def gone_on(stand, walker, more):
    """A walker whose way has some steps more."""
    begin, steps = way_of(stand, walker)
    ways = with_one(stand.ways, walker, (begin, steps + tuple(more)))
    return Stand(stand.shore, ways, stand.fences, stand.bids)


def stepped(stand, what):
    """A walker crosses a ditch."""
    walker, ditch = what
    here = place_of(stand, walker)
    if len(stand.ways[walker][1]) >= MOST_STEPS:
        raise Tired(f"{walker} has made {MOST_STEPS} steps")
    beyond(stand.shore, here, ditch)
    return gone_on(stand, walker, [ditch])


def gone(stand, what):
    """A walker goes to a plot by the first shortest walk."""
    walker, plot = what
    steps = walk(stand.shore, place_of(stand, walker), plot)
    if len(stand.ways[walker][1]) + len(steps) > MOST_STEPS:
        raise Tired(f"{walker} would have made more than {MOST_STEPS} steps")
    return gone_on(stand, walker, steps)


def left(stand, what):
    """A walker less."""
    walker = what[0]
    ask_walker(stand, walker)
    if any([walker in stand.bids[moot] for moot in stand.bids]):
        raise Bidden(f"{walker} is bidden")
    return Stand(stand.shore, without(stand.ways, walker), stand.fences, stand.bids)


def fenced(stand, what):
    """A ground, maybe in the place of one of that name."""
    name, walkers = what
    ask_name(name)
    ask_room(stand.fences, name, MOST_GROUNDS)
    ask_some(stand, walkers)
    kept = ground(stand.shore, places_of(stand, walkers))
    return Stand(stand.shore, stand.ways, with_one(stand.fences, name, kept), stand.bids)


def unfenced(stand, what):
    """A ground less."""
    name = what[0]
    ask_ground(stand, name)
    return Stand(stand.shore, stand.ways, without(stand.fences, name), stand.bids)


def called(stand, what):
    """A moot, maybe in the place of one of that name."""
    name, walkers = what
    ask_name(name)
    ask_room(stand.bids, name, MOST_MOOTS)
    ask_some(stand, walkers)
    return Stand(stand.shore, stand.ways, stand.fences, with_one(stand.bids, name, tuple(walkers)))


def closed(stand, what):
    """A moot less."""
    name = what[0]
    ask_moot(stand, name)
    return Stand(stand.shore, stand.ways, stand.fences, without(stand.bids, name))


DEEDS = {
    "dig": dug,
    "fill": filled,
    "land": landed,
    "walk": stepped,
    "go": gone,
    "leave": left,
    "fence": fenced,
    "unfence": unfenced,
    "call": called,
    "close": closed,
    "turn": carried,
}


def behind(stand, deed):
    """The stand behind a deed that is told as a tuple of its name and what was handed in."""
    word, *what = deed
    change = DEEDS[word]
    return change(stand, what)


def plots_of(stand):
    """All plots in order."""
    return plots(stand.shore)


def kept_of(stand, name):
    """The banks of a ground."""
    ask_ground(stand, name)
    return list(stand.fences[name])


def bid_of(stand, name):
    """The names that a moot bids, as called."""
    ask_moot(stand, name)
    return list(stand.bids[name])


def least_of(stand, name):
    """The least plots for the places of those whom a moot bids."""
    return least(stand.shore, places_of(stand, bid_of(stand, name)))


def toll_of(stand, name):
    """The toll for the places of those whom a moot bids."""
    return toll(stand.shore, places_of(stand, bid_of(stand, name)))


def walkers_on(stand, name):
    """The walkers whose places are of a ground, rising."""
    kept = kept_of(stand, name)
    return [walker for walker in sorted(stand.ways) if lies_on(place_of(stand, walker), kept)]


def gate_of(stand, name, walker):
    """The gate of a ground for a walker's place."""
    kept = kept_of(stand, name)
    return gate(stand.shore, kept, place_of(stand, walker))


def meeting_of(stand, names):
    """The plot that some grounds have, or the names of two of them that have none in common, and what parts them."""
    told = meet(stand.shore, [kept_of(stand, name) for name in names])
    if told[0] == "plot":
        return told
    word, at, to, ditch = told
    return (word, names[at], names[to], ditch)


def apart_of(stand, one, other):
    """The ditches that part two walkers, rising."""
    return between(stand.shore, place_of(stand, one), place_of(stand, other))


def third_of(stand, one, other, last):
    """The plot between three walkers."""
    return third(stand.shore, place_of(stand, one), place_of(stand, other), place_of(stand, last))
