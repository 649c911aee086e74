"""Sums over the boxes: a tuple of a tuple of numbers, one for each box, and a last number."""


def value(one, filling):
    """The value of a sum by a filling."""
    numbers, last = one
    return last + sum([number * held for number, held in zip(numbers, filling)])


def opposite(one):
    """The sum of 1 less a word: by each filling just one of both is 0 or less."""
    numbers, last = one
    return (tuple([-number for number in numbers]), 1 - last)


def put_in(one, boxes):
    """The sum that has by each filling the value of a sum by the values of others, one for each box."""
    numbers, last = one
    told = [0] * len(numbers)
    for number, (inner, more) in zip(numbers, boxes):
        told = [before + number * by for before, by in zip(told, inner)]
        last += number * more
    return (tuple(told), last)
