"""Crowds of plots: how many stand on each bank, the plots nearest to all, and papers that prove a bound."""

from shoretold.errors import NoPlot
from shoretold.plots import ask_plot, plots
from shoretold.shore import ditches
from shoretold.sides import parting


def ask_crowd(row, crowd):
    """Refuse a crowd in which something stands that is no plot of the row."""
    there = plots(row)
    for plot in crowd:
        if plot not in there:
            raise NoPlot(f"no plot {plot!r} in the row")


def counts(row, crowd):
    """The triples of a ditch and how many of a crowd stand home and off of it, rising."""
    ask_crowd(row, crowd)
    off = {name: len([plot for plot in crowd if name in plot]) for name in ditches(row)}
    return [(name, len(crowd) - off[name], off[name]) for name in off]


def steps_to(crowd, plot):
    """The number of all steps of shortest walks from each one of a good crowd to a good plot."""
    return sum([len(parting(one, plot)) for one in crowd])


def total(row, crowd, plot):
    """The total of a plot."""
    ask_crowd(row, crowd)
    ask_plot(row, plot)
    return steps_to(crowd, plot)


def least(row, crowd):
    """All plots whose total is no greater than any other's, in order."""
    ask_crowd(row, crowd)
    totals = {plot: steps_to(crowd, plot) for plot in plots(row)}
    fewest = min(totals.values())
    return [plot for plot in totals if totals[plot] == fewest]


def toll(row, crowd):
    """The total of the least plots."""
    # Each ditch is crossed by its lesser count at least, and the plot that lies on the banks of
    # the greater counts needs no more.
    return sum([number for name, number in told_paper(row, crowd)])


def told_paper(row, crowd):
    """The paper of all ditches, rising, each with its lesser count."""
    return [(name, min(home, off)) for name, home, off in counts(row, crowd)]


def holds(row, crowd, bound, paper):
    """Whether a paper holds for a crowd and a bound."""
    lesser = dict(told_paper(row, crowd))
    names = [name for name, number in paper]
    if len(set(names)) < len(names):
        return False
    for name, number in paper:
        if name not in lesser or not 0 <= number <= lesser[name]:
            return False
    return sum([number for name, number in paper]) >= bound
