"""The plots of an island, each told by the ditches on whose off bank it lies."""

from shoretold.errors import NoPlace, NoPlot
from shoretold.shore import ask_ditch, crossings, ditches, lie_of, spans


def told(names):
    """Names in any order, as a plot is told: each once, rising."""
    return tuple(sorted(set(names)))


def in_order(some):
    """Plots by how many names they have, those of as many names rising."""
    return sorted(some, key=lambda plot: (len(plot), plot))


def allows(how, off):
    """Whether a spot off a ditch may lie off (else home of) the other that this ditch lies so to."""
    if how == "within":
        return off
    return how != "apart" or not off


def is_plot(row, plot):
    """Whether a tuple of texts tells a plot of the row."""
    span = spans(row)
    if plot != told(plot) or any([name not in span for name in plot]):
        return False
    # Two home banks always go together, so only the ditches that the plot lies off are asked.
    return all([
        allows(lie_of(span[name], span[other]), other in plot)
        for name in plot
        for other in span
    ])


def ask_plot(row, plot):
    """Refuse what tells no plot of the row."""
    if not is_plot(row, plot):
        raise NoPlot(f"no plot {plot!r} in the row")


def plots(row):
    """All plots in order."""
    # The innermost ditches that a plot lies off cross one another, so there are none, one or
    # two of them, and the plot lies off just these and all ditches around them.
    span = spans(row)
    off = {
        name: [other for other in span if lie_of(span[name], span[other]) in ("same", "within")]
        for name in span
    }
    single = [told(off[name]) for name in off]
    double = [told(off[one] + off[other]) for one, other in crossings(row)]
    return in_order([()] + single + double)


def bank_of(plot, name):
    """The bank of a ditch on which a good plot lies."""
    return "off" if name in plot else "home"


def bank(row, plot, name):
    """The bank of a ditch on which a plot lies."""
    ask_plot(row, plot)
    ask_ditch(row, name)
    return bank_of(plot, name)


def at_gap(row, gap):
    """The plot that has the shore at a gap."""
    if not 0 <= gap <= len(row):
        raise NoPlace(f"no gap {gap} in a row of {len(row)} ends")
    ahead = row[:gap]
    return tuple([name for name in ditches(row) if ahead.count(name) == 1])


def gaps(row, plot):
    """All gaps at which a plot has the shore, rising."""
    ask_plot(row, plot)
    return [gap for gap in range(len(row) + 1) if at_gap(row, gap) == plot]


def retold(row, plot, by):
    """The plot as it is told from the stone carried on by so many ends."""
    ask_plot(row, plot)
    stone = at_gap(row, by)
    return tuple(sorted(set(plot) ^ set(stone)))
