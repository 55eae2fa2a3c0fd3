"""Stretches of time, and spans: lists of stretches in order, none touching or overlapping another."""

from whenrows.errors import NoStretch


def is_stretch(start, end):
    """Whether some moment lies between start and end."""
    return start is None or end is None or start < end


def refuse_no_stretch(start, end):
    if not is_stretch(start, end):
        raise NoStretch("the start of a stretch must be below its end")


def tidied(stretches):
    """The span of the moments that lie in one of the stretches."""
    span = []
    for start, end in sorted(stretches, key=start_order):
        if span and reaches(span[-1], start):
            span[-1] = (span[-1][0], later_end(span[-1][1], end))
        else:
            span.append((start, end))
    return span


def start_order(stretch):
    # None can't be compared with a number, and a start from ever comes ahead of all numbers.
    if stretch[0] is None:
        return (0, 0)
    return (1, stretch[0])


def reaches(stretch, start):
    """Whether a stretch that begins no later than start overlaps or touches one that begins at start."""
    return start is None or stretch[1] is None or start <= stretch[1]


def later_end(one, other):
    if one is None or other is None:
        return None
    return max(one, other)


def lies_in(span, moment):
    """Whether the moment lies in one of the span's stretches."""
    return any([holds_at(start, end, moment) for start, end in span])


def holds_at(start, end, moment):
    return (start is None or start <= moment) and (end is None or moment < end)


def joined(one, other):
    """The span of the moments in one or both."""
    return combined(one, other, lambda in_one, in_other: in_one or in_other)


def met(one, other):
    """The span of the moments in both."""
    return combined(one, other, lambda in_one, in_other: in_one and in_other)


def taken(one, other):
    """The span of the moments in the first, not in the second."""
    return combined(one, other, lambda in_one, in_other: in_one and not in_other)


def combined(one, other, wanted):
    """The span of the moments for which wanted(in one, in other) is so."""
    # A span's bounds are all unlike, so at each of them, and nowhere else, one steps into it or out of it.
    one_turns = marked(bounds_of(one))
    other_turns = marked(bounds_of(other))
    in_one = is_from_ever(one)
    in_other = is_from_ever(other)
    inside = wanted(in_one, in_other)
    start = None
    span = []
    for bound in sorted(set(one_turns) | set(other_turns)):
        in_one = in_one != (bound in one_turns)
        in_other = in_other != (bound in other_turns)
        was_inside = inside
        inside = wanted(in_one, in_other)
        if inside and not was_inside:
            start = bound
        if was_inside and not inside:
            span.append((start, bound))
    if inside:
        span.append((start, None))
    return span


def marked(numbers):
    return dict([(number, True) for number in numbers])


def is_from_ever(span):
    return len(span) > 0 and span[0][0] is None


def bounds_of(span):
    """The span's starts and ends that are numbers, rising."""
    bounds = []
    for start, end in span:
        bounds.extend([bound for bound in (start, end) if bound is not None])
    return bounds
