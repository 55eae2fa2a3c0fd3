"""What the tests of spans share: spans told moment by moment, worked out without the program."""

from itertools import combinations, product

BOUNDS = [-1, 0, 1, 2]
# From below the least of BOUNDS to its greatest: between two of them, and beyond them, nothing can change.
MOMENTS = [-2, -1, 0, 1, 2]
FAR = 10 ** 60 - 1

STRETCHES = [
    (start, end)
    for start, end in product([None] + BOUNDS, [None] + BOUNDS)
    if start is None or end is None or start < end
]


def moments_in(stretches):
    """Those of MOMENTS that lie in one of the stretches."""
    return {
        moment
        for moment in MOMENTS
        for start, end in stretches
        if (start is None or start <= moment) and (end is None or moment < end)
    }


def span_of(moments):
    """The one span with bounds out of BOUNDS in which just these of MOMENTS lie."""
    span = []
    for moment in MOMENTS:
        if moment not in moments:
            continue
        start = None if moment == MOMENTS[0] else moment
        end = None if moment == MOMENTS[-1] else moment + 1
        if span and span[-1][1] == moment:
            start = span.pop()[0]
        span.append((start, end))
    return span


ALL_SPANS = [
    span_of(set(chosen))
    for size in range(len(MOMENTS) + 1)
    for chosen in combinations(MOMENTS, size)
]
