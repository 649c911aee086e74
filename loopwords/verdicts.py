"""Verdicts: all words of a program kept, each task with its tree, or a filling that breaks one of them."""

from loopwords.programs import is_within
from loopwords.sums import value
from loopwords.tasks import tasks
from loopwords.trees import is_tree, tried


def judged(program):
    """The verdict of a program."""
    told = tasks(program)
    stretch = _all_within(program)
    trees = [None] * len(told)
    # Of tasks with as many rows the first one stays ahead, so the first one found broken is the one to tell.
    for number in sorted(range(len(told)), key=lambda which: told[which][4]):
        tree, filling = tried(stretch, told[number][5])
        if tree is None:
            return ("broken", number, filling)
        trees[number] = tree
    return ("kept", trees)


def stands(program, verdict):
    """Whether this is a verdict of the program, but that its task may be any one that is broken."""
    if type(verdict) != tuple:
        return False
    if len(verdict) == 2 and verdict[0] == "kept":
        return _are_trees(program, verdict[1])
    if len(verdict) == 3 and verdict[0] == "broken":
        return _breaks(program, verdict[1], verdict[2])
    return False


def _are_trees(program, trees):
    """Whether these are a tree for each task, in order."""
    told = tasks(program)
    if type(trees) != list or len(trees) != len(told):
        return False
    stretch = _all_within(program)
    return all([is_tree(stretch, task[5], tree) for task, tree in zip(told, trees)])


def _breaks(program, number, filling):
    """Whether the task of this number is broken by a filling."""
    told = tasks(program)
    if type(number) != int or not 0 <= number < len(told) or not is_within(program, filling):
        return False
    return all([value(one, filling) <= 0 for one in told[number][5]])


def _all_within(program):
    """The stretch of all fillings that are within."""
    return [(0, top) for top in program.tops]
