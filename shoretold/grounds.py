"""Grounds: bodies of plots that are told by the banks that their plots share."""

from shoretold.errors import BadGround, NoBody
from shoretold.moots import ask_crowd
from shoretold.plots import ask_plot, bank_of, plots
from shoretold.shore import ditches
from shoretold.sides import across


def lies_on(plot, kept):
    """Whether a plot lies on all the banks that are told."""
    return all([bank_of(plot, name) == side for name, side in kept])


def shared(row, some):
    """The pairs of a ditch and its bank on which all of some good plots lie, rising."""
    sides = {name: sorted({bank_of(plot, name) for plot in some}) for name in ditches(row)}
    return [(name, sides[name][0]) for name in sides if len(sides[name]) == 1]


def ground(row, crowd):
    """The least ground that holds a crowd."""
    if not crowd:
        raise NoBody("a ground of no plot")
    ask_crowd(row, crowd)
    return shared(row, crowd)


def held(row, kept):
    """The plots of a ground, in order."""
    some = [plot for plot in plots(row) if lies_on(plot, kept)]
    # A list that is told of any plots is told of all plots on its banks, too.
    if not some or shared(row, some) != kept:
        raise BadGround(f"no ground is told as {kept!r}")
    return some


def inside(row, kept, plot):
    """Whether a plot is of a ground."""
    some = held(row, kept)
    ask_plot(row, plot)
    return plot in some


def gate(row, kept, plot):
    """The plot of a ground to which the fewest ditches part a plot."""
    held(row, kept)
    ask_plot(row, plot)
    side = dict(kept)
    return tuple([name for name in ditches(row) if side.get(name, bank_of(plot, name)) == "off"])


def border(row, kept):
    """The ditches over which one step leads out of a ground, rising."""
    some = held(row, kept)
    there = plots(row)
    # A step over a ditch of which the ground has both banks stays in it.
    return [name for name, side in kept if any([across(plot, name) in there for plot in some])]


def joined(row, kept, other):
    """The least ground that holds two grounds."""
    held(row, kept)
    held(row, other)
    return [pair for pair in kept if pair in other]


def ditches_between(kept, other):
    """The ditches of which two good grounds tell unlike banks, rising."""
    side = dict(other)
    return [name for name, here in kept if side.get(name, here) != here]


def meet(row, grounds):
    """The first plot that all grounds have, or the first two that have none in common and what parts them."""
    if not grounds:
        raise NoBody("no ground")
    for kept in grounds:
        held(row, kept)
    for at, kept in enumerate(grounds):
        for to in range(at + 1, len(grounds)):
            names = ditches_between(kept, grounds[to])
            if names:
                return ("parted", at, to, names[0])
    # Where each two have a plot in common, all have one.
    common = [plot for plot in plots(row) if all([lies_on(plot, kept) for kept in grounds])]
    return ("plot", common[0])
