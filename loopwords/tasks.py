"""Tasks: each way of a program from one looking to the next, with one of what is asked where it has come to."""

from loopwords.runs import beginning, behind, beyond
from loopwords.sums import opposite, put_in


def asked(program, place):
    """The words that are asked at the place of a say or a loop."""
    row = program.row(place)
    if row[0] == "say":
        return [row[1]]
    tops = program.tops
    told = list(row[2])
    for box, top in enumerate(tops):
        told.append((_of_one_box(-1, box, len(tops)), 0))
        told.append((_of_one_box(1, box, len(tops)), -top))
    return told


def tasks(program):
    """All tasks of a program, in order."""
    told = []
    for start in [()] + program.loops():
        for truths, place, many, boxes, words in _ways(program, start):
            for number, word in enumerate(asked(program, place)):
                last = put_in(opposite(word), boxes)
                told.append((start, truths, place, number, many, words + [last]))
    return told


def _ways(program, start):
    """The ways from a beginning to each say and loop that they come to, in order.

    A way is a tuple: truths, the place come to, how many rows were done, the boxes there and the words that hold
    on the way, both as sums over the filling at the beginning.
    """
    found = []
    ahead = _beginnings(program, start)
    while ahead:
        way = ahead.pop()
        place = way[1]
        if place is not None:
            if program.row(place)[0] in ("say", "loop"):
                found.append(way)
            ahead.extend(_further(program, way))
    return found


def _beginnings(program, start):
    """The ways that are not gone yet, the first one to go last."""
    many = len(program.tops)
    boxes = [(_of_one_box(1, box, many), 0) for box in range(many)]
    if start == ():
        return [((), beginning(program), 0, boxes, [])]
    return _both(program, ((), start, 0, boxes, list(program.row(start)[2])))


def _further(program, way):
    """The ways one row further on, the first one to go last; none from a loop, where ways end."""
    truths, place, many, boxes, words = way
    row = program.row(place)
    if row[0] == "loop":
        return []
    if row[0] == "if":
        return _both(program, way)
    if row[0] == "put":
        box = row[1]
        boxes = boxes[:box] + [put_in(row[2], boxes)] + boxes[box + 1:]
    else:
        words = words + [put_in(row[1], boxes)]
    return [(truths, behind(program, place), many + 1, boxes, words)]


def _both(program, way):
    """The ways on from an if, or from the loop at which they begin, the one on which its word holds last."""
    truths, place, many, boxes, words = way
    word = put_in(program.row(place)[1], boxes)
    return [
        (truths + (holds,), beyond(program, place, holds), many + 1, boxes, words + [then])
        for holds, then in ((False, opposite(word)), (True, word))
    ]


def _of_one_box(number, box, many):
    """The numbers of a sum over so many boxes in which only one box counts."""
    return tuple([number if at == box else 0 for at in range(many)])
