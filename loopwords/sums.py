"""Sums over the boxes: a tuple of a tuple of numbers, one for each box, and a last number."""


def value(one, filling):
    """The value of a sum by a filling."""
    numbers, last = one
    return last + sum([number * held for number, held in zip(numbers, filling)])


def opposite(one):
    """The sum of 1 less a word: by each filling just one of both is 0 or less."""
    numbers, last = one
    return (tuple([-number for number in numbers]), 1 - last)


def put_in(one, boxes):
    """The sum that has by each filling the value of a sum by the values of others, one for each box."""
    numbers, _ = one
    # The others may be over more or fewer boxes than the sum that they are put into.
    inners = [inner for inner, _ in boxes]
    told = [value((numbers, 0), column) for column in zip(*inners)]
    return (tuple(told), value(one, [more for _, more in boxes]))
