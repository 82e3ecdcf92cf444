"""What the tests of runs share: runs of all classes, and all that a run tells of itself and of its past."""

import copy

from restartable.objects import Script
from restartable.runs import Counted, CountedMarked, Marked, Run
from tests.cases import SESSION

RECORD = (4, 5, 6)
CLASSES = (Run, Marked, Counted, CountedMarked)
WITH_MARKS = (Marked, CountedMarked)
COUNTING = (Counted, CountedMarked)


class Broken(Exception):
    pass


def session():
    return Script(SESSION[0], *SESSION[1])


def made(kind, script, record, marks=()):
    """A run of any of the classes, with these marks if it takes some."""
    if kind in WITH_MARKS:
        return kind(Script(script[0], *script[1]), record, *marks)
    return kind(Script(script[0], *script[1]), record)


def each_run(marks=(1, 3)):
    return [made(kind, SESSION, RECORD, marks) for kind in CLASSES]


def facts(run):
    """All that a run tells of itself but its script."""
    told = [run.record, run.place, run.ended, run.changes, len(run), repr(run)]
    if isinstance(run, Marked):
        told += [run.marks, run.mark]
    if isinstance(run, Counted):
        told += [run.beginnings]
    return repr(told)


def history(run):
    """All that the run was, found on a copy that is taken back to its beginning."""
    other = copy.deepcopy(run)
    told = [facts(other)]
    while other.changes:
        other.undo()
        told.append(facts(other))
    return told


def assign(run, record):
    run.record = record


def drawn_marks(rng, many):
    return tuple([mark for mark in range(1, many + 1) if rng.random() < 0.3])
