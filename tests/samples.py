"""Programs to test with, and what the document says of them worked out in another way, without the package."""

import random
from itertools import product

from loopwords.programs import Program

# Words over two boxes.
YES = ((0, 0), 0)
NO = ((0, 0), 1)
UP = ("put", 0, ((1, 0), 1))
DOWN = ("put", 0, ((1, 0), -1))
CLEAR = ("put", 0, ((0, 0), 0))

# Each a pair: tops and rows.
SAMPLES = {
    "no rows": ([2], ()),
    "no rows, tops of 0": ([0, 0, 0], ()),
    "a say": ([2, 2], (("say", ((1, -1), 0)),)),
    "an if without rows": ([2, 2], (("if", ((1, 0), -1), (), ()), ("say", ((0, 1), -1)))),
    "a loop without rows": ([2, 2], (("loop", ((1, 0), 0), (), ()), ("say", ((-1, 0), 1)))),
    "a loop alone without rows, never left": ([1, 1], (("loop", YES, (((1, 1), -2),), ()),)),
    "counting up to the top": ([3, 1], (CLEAR, ("loop", ((1, 0), -2), (), (UP,)), ("say", ((-1, 0), 3)))),
    "counting beyond the top": ([3, 1], (CLEAR, ("loop", ((1, 0), -3), (), (UP,)))),
    "counting below nought": ([3, 1], (("loop", ((-1, 0), 0), (), (DOWN,)),)),
    "tops of 0 at a loop": ([0, 0], (("loop", YES, (), (("put", 1, ((0, 1), 0)),)),)),
    "tops of 0 left at a loop": ([0, 0], (("loop", ((1, 0), 0), (), (UP,)),)),
    "below nought but not at a loop": ([2, 2], (DOWN, ("say", ((1, 0), -1)), UP, ("loop", NO, (), ()))),
    "two boxes in step": ([4, 4], (
        CLEAR,
        ("put", 1, ((0, 0), 0)),
        ("loop", ((1, 0), -3), (((1, -1), 0), ((-1, 1), 0)), (UP, ("put", 1, ((0, 1), 1)))),
        ("say", ((0, -1), 4)),
    )),
    "two boxes out of step": ([4, 4], (
        CLEAR,
        ("put", 1, ((0, 0), 0)),
        ("loop", ((1, 0), -3), (((1, -1), 0), ((-1, 1), 0)), (UP, ("put", 1, ((1, 0), 0)), DOWN)),
    )),
    "a loop last in a loop": ([2, 2], (
        ("loop", ((1, 0), -1), (), (UP, ("put", 1, ((0, 0), 2)), ("loop", ((0, -1), 1), (), (
            ("put", 1, ((0, 1), -1)),
        )))),
        ("say", ((-1, 0), 2)),
    )),
    "a loop last in an if": ([2, 2], (
        ("if", ((1, -1), 0), (("loop", ((1, 0), -1), (), (UP,)),), (DOWN, ("loop", NO, (), ()))),
        ("say", ((1, 0), -2)),
    )),
    "a loop in a loop in a loop": ([2, 1], (
        ("loop", ((1, 0), -1), (((0, 1), -1),), (
            ("loop", NO, (((1, 0), -1),), (("loop", YES, (), ()),)), UP,
        )),
    )),
    "an if in an if": ([3, 3], (
        ("if", ((1, 0), -1), (
            ("if", ((0, 1), -1), (("say", ((1, 1), -2)),), (CLEAR,)),
            ("say", ((1, -3), -1)),
        ), (("put", 1, ((1, 1), -2)),)),
        ("say", ((1, 1), -6)),
    )),
    "a say that holds what the next one asks": ([3, 3], (("say", ((1, 0), -1)), UP, ("say", ((1, 0), -2)))),
    "three boxes": ([1, 2, 1], (
        ("put", 2, ((1, 0, 1), 0)),
        ("if", ((0, 0, 1), -1), (("loop", ((0, 1, 0), -1), (((0, 1, -1), -2),), (("put", 1, ((0, 1, 0), 1)),)),), ()),
        ("say", ((1, -1, 1), -2)),
    )),
    "a swap": ([2, 2, 2], (
        ("put", 2, ((1, 0, 0), 0)), ("put", 0, ((0, 1, 0), 0)), ("put", 1, ((0, 0, 1), 0)),
        ("say", ((1, 1, 0), -4)), ("say", ((0, 1, -1), 0)), ("say", ((0, -1, 1), 0)),
    )),
}


def sample(name):
    tops, rows = SAMPLES[name]
    return Program(list(tops), rows)


def programs():
    """All samples and many small programs made by chance, the same ones each time."""
    told = [sample(name) for name in SAMPLES]
    chance = random.Random(20261119)
    while len(told) < 300:
        many = chance.randint(1, 3)
        rows = _rows(chance, many, [12], 0)
        if rows != ():
            told.append(Program([chance.randint(0, 3) for _ in range(many)], rows))
    return told


def _rows(chance, many, left, depth):
    rows = []
    for _ in range(chance.randint(0, 4)):
        if left[0] == 0:
            break
        left[0] -= 1
        kind = chance.choice(["put", "say", "if", "loop"] if depth < 3 else ["put", "say"])
        if kind == "put":
            rows.append(("put", chance.randrange(many), _sum(chance, many)))
        elif kind == "say":
            rows.append(("say", _sum(chance, many)))
        elif kind == "if":
            word = _sum(chance, many)
            first = _rows(chance, many, left, depth + 1)
            rows.append(("if", word, first, _rows(chance, many, left, depth + 1)))
        else:
            words = tuple(_sum(chance, many, -6) for _ in range(chance.randint(0, 2)))
            rows.append(("loop", _sum(chance, many), words, _rows(chance, many, left, depth + 1)))
    return tuple(rows)


def _sum(chance, many, more=0):
    return (tuple(chance.choice([-2, -1, 0, 0, 1, 1]) for _ in range(many)), chance.randint(-3, 3) + more)


def by(word, filling):
    return word[1] + sum(word[0][box] * filling[box] for box in range(len(filling)))


def fillings(program, beyond=0):
    """All fillings that are within, or beyond it by so many."""
    return [list(one) for one in product(*[range(-beyond, top + 1 + beyond) for top in program.tops])]


def flow(program):
    """The place that a program begins with, and of each place its row and the two places that come next."""
    told = {}

    def lay(rows, ahead, after):
        places = [ahead + (number,) for number in range(len(rows))] + [after]
        for row, place, then in zip(rows, places, places[1:]):
            if row[0] == "if":
                told[place] = (row, lay(row[2], place + (0,), then), lay(row[3], place + (1,), then))
            elif row[0] == "loop":
                told[place] = (row, lay(row[3], place + (0,), place), then)
            else:
                told[place] = (row, then, then)
        return places[0]

    return lay(program.rows, (), None), told


def asks(program, row):
    if row[0] == "say":
        return [row[1]]
    words = list(row[2])
    for box, top in enumerate(program.tops):
        single = tuple(int(at == box) for at in range(len(program.tops)))
        words += [(tuple(-one for one in single), 0), (single, -top)]
    return words


def goes(program, filling, most, start=None):
    """What a run tells, or a round from a place of a loop."""
    place, rows = flow(program)
    place = start or place
    held, many = list(filling), 0
    while place is not None:
        if many == most:
            return ("long", place, held)
        row, then, otherwise = rows[place]
        if row[0] in ("say", "loop") and any(by(word, held) > 0 for word in asks(program, row)):
            return ("broken", place, held)
        if row[0] in ("if", "loop") and by(row[1], held) > 0:
            place = otherwise
        else:
            place = then
        if row[0] == "put":
            held[row[1]] = by(row[2], held)
        many += 1
    return ("done", held, many)


def ways(program):
    """Each way in order: its beginning, its truths, the place come to, and the steps: pairs of a row and a truth."""
    first, rows = flow(program)

    def on(start, place, truths, steps):
        if place is None:
            return []
        row, then, otherwise = rows[place]
        told = [(start, truths, place, steps)] if row[0] in ("say", "loop") else []
        if row[0] == "loop":
            return told
        if row[0] == "if":
            for holds, there in ((True, then), (False, otherwise)):
                told += on(start, there, truths + (holds,), steps + [(row, holds)])
            return told
        return told + on(start, then, truths, steps + [(row, True)])

    told = on((), first, (), [])
    for loop in [place for place in sorted(rows) if rows[place][0][0] == "loop"]:
        row, then, otherwise = rows[loop]
        for holds, there in ((True, then), (False, otherwise)):
            told += on(loop, there, (holds,), [(row, holds)])
    return told


def values_on(program, way, number, filling):
    """The values that the sums of a task are to have by a filling at the way's beginning."""
    start, _, place, steps = way
    held, told = list(filling), []
    rows = flow(program)[1]
    if start != ():
        told += [by(word, held) for word in rows[start][0][2]]
    for row, holds in steps:
        if row[0] == "put":
            held[row[1]] = by(row[2], held)
        else:
            told.append(by(row[1], held) if holds else 1 - by(row[1], held))
    return told + [1 - by(asks(program, rows[place][0])[number], held)]
