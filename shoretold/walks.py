"""Walks from plot to plot, and the shortest ones: how many there are, and the one of each number."""

from shoretold.errors import NoWalk
from shoretold.plots import ask_plot, plots
from shoretold.shore import ask_ditch
from shoretold.sides import across, parting, stepped


def between(row, one, other):
    """The ditches that part two plots, rising."""
    ask_plot(row, one)
    ask_plot(row, other)
    return parting(one, other)


def far(row, one, other):
    """How many ditches part two plots."""
    return len(between(row, one, other))


def led(row, plot, steps):
    """The plot to which a walk leads."""
    ask_plot(row, plot)
    # A stranger at any place of the walk is refused ahead of a step that can't be made.
    for name in steps:
        ask_ditch(row, name)
    here = plot
    for at, name in enumerate(steps):
        here = stepped(row, here, name, at)
    return here


def ways_to(row, goal):
    """How many shortest walks lead to a good plot from each plot of the row, by plot."""
    many = {goal: 1}
    # The nearer plots come first, and each step of a shortest walk leads to a nearer one: what
    # isn't counted yet is no plot.
    for plot in sorted(plots(row), key=lambda one: len(parting(one, goal))):
        if plot != goal:
            many[plot] = sum([many.get(across(plot, name), 0) for name in parting(plot, goal)])
    return many


def walks_many(row, one, other):
    """How many shortest walks there are between two plots."""
    ask_plot(row, one)
    ask_plot(row, other)
    return ways_to(row, other)[one]


def walk(row, one, other):
    """The first one of the shortest walks between two plots."""
    return walk_of(row, one, other, 0)


def nearer(many, plot, goal):
    """The triples (name, plot behind it, ways from there) of all first steps to a goal, rising."""
    sides = [(name, across(plot, name)) for name in parting(plot, goal)]
    return [(name, over, many[over]) for name, over in sides if over in many]


def walk_of(row, one, other, number):
    """The shortest walk of a number."""
    ask_plot(row, one)
    ask_plot(row, other)
    many = ways_to(row, other)
    if not 0 <= number < many[one]:
        raise NoWalk(f"no number {number} among {many[one]} walks")
    steps = []
    here = one
    left = number
    while here != other:
        for name, over, ways in nearer(many, here, other):
            if left < ways:
                steps.append(name)
                here = over
                break
            # All walks that begin with this step stand ahead of the one that is looked for.
            left -= ways
    return steps


def number_of(row, plot, steps):
    """The number of a shortest walk among those from a plot to where it leads."""
    goal = led(row, plot, steps)
    # No walk has fewer steps than ditches part its ends, so one of as many is a shortest one.
    if len(steps) != len(parting(plot, goal)):
        raise NoWalk("a walk that is no shortest one")
    many = ways_to(row, goal)
    number = 0
    here = plot
    for step in steps:
        number += sum([ways for name, over, ways in nearer(many, here, goal) if name < step])
        here = across(here, step)
    return number
