"""The plots that lie beside one another over a ditch, and round a crossing."""

from shoretold.errors import NoCrossing, NotBeside
from shoretold.plots import ask_plot, in_order, is_plot, plots, told
from shoretold.shore import ask_ditch, ditches, lie


def parting(one, other):
    """The names that stand in just one of two tuples of names, rising."""
    return sorted(set(one) ^ set(other))


def across(plot, name):
    """A plot's banks but with the other one of a ditch, told like a plot, be it one or not."""
    return tuple(parting(plot, (name,)))


def stepped(row, plot, name, at):
    """The neighbour of a good plot over a ditch of the row, come to by the step of a number."""
    over = across(plot, name)
    if not is_plot(row, over):
        raise NotBeside(at)
    return over


def beyond(row, plot, name):
    """The neighbour over a ditch."""
    ask_plot(row, plot)
    ask_ditch(row, name)
    return stepped(row, plot, name, 0)


def neighbours(row, plot):
    """The pairs of a ditch and the neighbour over it, rising."""
    ask_plot(row, plot)
    there = plots(row)
    sides = [(name, across(plot, name)) for name in ditches(row)]
    return [(name, over) for name, over in sides if over in there]


def corners(row, one, other):
    """The four plots round the crossing of two ditches, in order."""
    if lie(row, one, other) != "cross":
        raise NoCrossing(f"{one} and {other} do not cross")
    # The crossing lies on both ditches, so it is off all that one of them is within, and home of
    # any ditch that lies within one of them, or apart from it.
    off = [name for name in ditches(row) if "within" in (lie(row, one, name), lie(row, other, name))]
    return in_order([told(off + more) for more in ([], [one], [other], [one, other])])
