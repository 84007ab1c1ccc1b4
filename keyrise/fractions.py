"""Fractions, their steps and their rows, and the reading of these rows.

A fraction is a tuple (top, bottom). Whatever goes from step to step is a loop, since there may be any
number of steps.
"""

from keyrise.counts import count_row, draw_count, draw_whole, has_whole_row, is_count, turned_row, whole_row
from keyrise.errors import NoFit
from keyrise.source import Source


def steps_of(fraction):
    steps = []
    top = fraction[0]
    bottom = fraction[1]
    while bottom != 0:
        steps.append(top // bottom)
        rest = top % bottom
        top = bottom
        bottom = rest
    return steps


def are_steps(steps):
    if len(steps) < 2:
        return len(steps) == 1
    # A last step one would be one more on the step ahead of it.
    return all([step > 0 for step in steps[1:]]) and steps[-1] > 1


def fraction_of(steps):
    if not are_steps(steps):
        raise NoFit("no fraction has these steps")
    top = steps[-1]
    bottom = 1
    for step in reversed(steps[:-1]):
        turned_over = top
        top = step * top + bottom
        bottom = turned_over
    return (top, bottom)


def common_divisor(one, other):
    while other != 0:
        rest = one % other
        one = other
        other = rest
    return one


def is_fraction(fraction):
    return fraction[1] > 0 and common_divisor(fraction[0], fraction[1]) == 1


def has_fraction_row(fraction):
    if not is_fraction(fraction):
        return False
    steps = steps_of(fraction)
    return has_whole_row(steps[0]) and all([is_count(step - 1) for step in steps[1:]])


def row_of_steps(steps):
    last = len(steps) - 1
    rows = []
    for k, step in enumerate(steps):
        row = whole_row(step) if k == 0 else count_row(step - 1)
        row = row + ("0" if k == last else "1")
        # All behind a step is turned, so what is turned twice stands as it was.
        rows.append(turned_row(row) if k % 2 == 1 else row)
    return "".join(rows)


def fraction_row(fraction):
    if not has_fraction_row(fraction):
        raise NoFit("it is no fraction that has a row")
    return row_of_steps(steps_of(fraction))


def draw_fraction(source):
    steps = [draw_whole(source)]
    while source.draw() == 1:
        source.turn()
        # A step one can't end the row: where the signs have ended, the step is to be a greater one, and
        # where they end behind a step one, another one is to follow.
        source.wish(1)
        steps.append(draw_count(source) + 1)
        if steps[-1] == 1:
            source.wish(1)
    if not are_steps(steps):
        source.refuse()
    # The source is left as it was handed in; each step behind the first has turned it.
    if len(steps) % 2 == 0:
        source.turn()
    return fraction_of(steps)


def read_fraction(signs, at):
    source = Source(signs, at)
    fraction = draw_fraction(source)
    return (fraction, source.place)
