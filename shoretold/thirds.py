"""What lies between plots: the lane of two, the one plot of three."""

from shoretold.plots import ask_plot, plots
from shoretold.shore import ditches
from shoretold.sides import parting


def lies_between(one, other, plot):
    """Whether a good plot lies on shortest walks between two."""
    return len(parting(one, plot)) + len(parting(plot, other)) == len(parting(one, other))


def on_way(row, one, other, plot):
    """Whether a plot is of the lane of two."""
    for asked in (one, other, plot):
        ask_plot(row, asked)
    return lies_between(one, other, plot)


def lane(row, one, other):
    """All plots on shortest walks between two plots, these two among them, in order."""
    ask_plot(row, one)
    ask_plot(row, other)
    return [plot for plot in plots(row) if lies_between(one, other, plot)]


def third(row, one, other, last):
    """The plot that lies on shortest walks between each two of three plots."""
    three = (one, other, last)
    for asked in three:
        ask_plot(row, asked)
    # A bank that two of the three share is the bank of all plots on their way.
    return tuple([name for name in ditches(row) if len([plot for plot in three if name in plot]) >= 2])
