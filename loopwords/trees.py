"""Trees: a stretch that is cut up until in each part of it one of some sums nowhere holds."""


def tried(stretch, some):
    """A tree for a stretch and some sums, and None; or None and a filling in the stretch by which all hold."""
    return _tried(list(stretch), list(enumerate(some)))


def is_tree(stretch, some, tree):
    """Whether this is a tree for a stretch and some sums."""
    # A list of what is still to be looked at, not a call for each part: a tree may be very deep.
    ahead = [(stretch, tree)]
    while ahead:
        here, part = ahead.pop()
        if _is_cut(here, part):
            _, box, at, below, above = part
            lower, upper = _cut(here, box, at)
            ahead.append((lower, below))
            ahead.append((upper, above))
        elif not _is_end(here, some, part):
            return False
    return True


def _tried(stretch, ahead):
    """As tried, of pairs of a sum's number and the sum; those left out hold by each filling in the stretch."""
    rest = []
    for number, one in ahead:
        least, most = _least_and_most(one, stretch)
        if least > 0:
            return (("sum", number), None)
        if most > 0:
            rest.append((number, one))
    if len(rest) == 0:
        return (None, [low for low, _ in stretch])
    box, at = _where_to_cut(stretch, rest)
    lower, upper = _cut(stretch, box, at)
    below, filling = _tried(lower, rest)
    if below is None:
        return (None, filling)
    above, filling = _tried(upper, rest)
    if above is None:
        return (None, filling)
    return (("cut", box, at, below, above), None)


def _where_to_cut(stretch, rest):
    """A box and its number at which to cut, for sums that hold by some fillings in the stretch and not by others.

    Where a sum leaves at most half of a box, the other numbers are cut off at once; else the widest box is cut in
    the middle. So what is left of a box is halved each time, and no tree gets deep.
    """
    widest, found = 1, None
    for _, one in rest:
        least, _ = _least_and_most(one, stretch)
        for box, number in enumerate(one[0]):
            if number == 0:
                continue
            low, high = stretch[box]
            wide = high - low + 1
            left = -least // abs(number) + 1
            if 2 * left <= wide:
                return (box, low + left - 1 if number > 0 else high - left)
            if wide > widest:
                widest, found = wide, (box, (low + high) // 2)
    return found


def _cut(stretch, box, at):
    """The two parts of a stretch that is cut: up to a number of a box, and from the next one on."""
    low, high = stretch[box]
    lower, upper = list(stretch), list(stretch)
    lower[box] = (low, at)
    upper[box] = (at + 1, high)
    return (lower, upper)


def _least_and_most(one, stretch):
    """The least and the greatest value of a sum by the fillings in a stretch."""
    numbers, least = one
    most = least
    for number, (low, high) in zip(numbers, stretch):
        if number > 0:
            least += number * low
            most += number * high
        else:
            least += number * high
            most += number * low
    return (least, most)


def _is_cut(stretch, part):
    """Whether this is a cut that may be made in a stretch."""
    if type(part) != tuple or len(part) != 5 or part[0] != "cut":
        return False
    _, box, at, _, _ = part
    if type(box) != int or type(at) != int or not 0 <= box < len(stretch):
        return False
    low, high = stretch[box]
    return low <= at < high


def _is_end(stretch, some, part):
    """Whether this names one of the sums, one that holds by no filling in a stretch."""
    if type(part) != tuple or len(part) != 2 or part[0] != "sum":
        return False
    number = part[1]
    if type(number) != int or not 0 <= number < len(some):
        return False
    least, _ = _least_and_most(some[number], stretch)
    return least > 0
