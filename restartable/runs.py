"""Runs of a Script that are done step by step, stopped, begun again and taken back."""

from restartable.errors import Ended, NothingDone, ScriptError
from restartable.marks import check_marks, start_behind
from restartable.objects import Script
from restartable.scripts import after_steps, check_many, check_record


class Kept:
    """How a run was when a block began, and what the same context manager kept before."""

    def __init__(self, now, past, before):
        self.now = now
        self.past = past
        self.before = before


class Trying:
    """A context manager that makes a run as it was when the block began, if an exception leaves the block."""

    def __init__(self, run):
        self.held = run
        self.kept = None

    def __enter__(self):
        # Within its block the same context manager may be entered again, so what it kept before is not lost.
        self.kept = Kept(self.held.now, list(self.held.past), self.kept)
        return self.held

    def __exit__(self, kind, value, trace):
        if kind is not None:
            self.held.now = self.kept.now
            self.held.past = self.kept.past
        self.kept = self.kept.before
        return False


class Run:
    """A run that is begun again with the first step."""

    NAME = "Run"

    def __init__(self, script, record):
        if not isinstance(script, Script):
            raise ScriptError("not a Script")
        check_record(record, script.fields)
        self.source = script
        # The record, the place and the number of beginnings. They stand in one tuple, so that undo and trying bring
        # all of them back together; only a Counted tells the last one.
        self.now = (record, 0, 1)
        self.past = []

    @property
    def script(self):
        """The Script that is run."""
        return self.source

    @property
    def record(self):
        """The record behind what was done so far."""
        return self.now[0]

    @record.setter
    def record(self, value):
        self.assign_record(value)

    @property
    def place(self):
        """The number of the next step, from 0 on."""
        return self.now[1]

    @property
    def ended(self):
        """Whether all steps are done."""
        return len(self.steps_left()) == 0

    @property
    def changes(self):
        """The number of changes that have not been taken back."""
        return len(self.past)

    def __len__(self):
        """The number of steps that are left."""
        return len(self.steps_left())

    def __repr__(self):
        """The name of the class, and how many steps are done and left."""
        return f"{self.NAME}({self.place} done, {len(self.steps_left())} left)"

    def __call__(self, many):
        """Do so many steps."""
        self.go(many)

    def assign_record(self, record):
        """Change the record alone."""
        check_record(record, self.source.fields)
        self.change(record, self.place, self.now[2])

    def step(self):
        """Do the next step."""
        if self.ended:
            raise Ended("no step is left")
        self.advance(1)

    def go(self, many):
        """Do so many steps."""
        check_many(many, len(self.steps_left()))
        self.advance(many)

    def stop(self):
        """Stop and begin again."""
        self.change(self.record, self.place_to_begin(), self.now[2] + 1)

    def finish(self):
        """Do all steps that are left."""
        self.advance(len(self.steps_left()))

    def undo(self):
        """Take back the last change that has not been taken back."""
        if len(self.past) == 0:
            raise NothingDone("there is nothing to take back")
        self.now = self.past.pop()

    def trying(self):
        """A context manager that takes back what its block did, if an exception leaves the block."""
        return Trying(self)

    def steps_left(self):
        """The tuple of the steps that are left."""
        return self.source.steps[self.place:]

    def place_to_begin(self):
        """The place at which the run goes on if it is begun again now."""
        return 0

    def advance(self, many):
        """Do so many steps, as one change; nothing is checked."""
        record = after_steps(self.steps_left()[:many], self.record)
        self.change(record, self.place + many, self.now[2])

    def change(self, record, place, beginnings):
        """Make the run so, and keep how it was for undo."""
        self.past.append(self.now)
        self.now = (record, place, beginnings)


class Marked(Run):
    """A run that is begun again behind the last step whose mark is set."""

    NAME = "Marked"

    def __init__(self, script, record, *marks):
        Run.__init__(self, script, record)
        check_marks(marks, len(script))
        self.chosen = marks

    @property
    def marks(self):
        """The marks of the run."""
        return self.chosen

    @property
    def mark(self):
        """The number of the last mark that is set, 0 if there is none."""
        # A run never goes back behind a mark that is set, so the place alone tells which ones are.
        return start_behind(self.chosen, self.place)

    def place_to_begin(self):
        """The place behind the last mark that is set."""
        return self.mark


class Counted(Run):
    """A run that tells how often it was begun."""

    NAME = "Counted"

    # Every class of runs tells its arguments itself, as the interface lists them.
    def __init__(self, script, record):
        Run.__init__(self, script, record)

    @property
    def beginnings(self):
        """How often the run was begun."""
        return self.now[2]


class CountedMarked(Counted, Marked):
    """A run with marks that tells how often it was begun."""

    NAME = "CountedMarked"

    def __init__(self, script, record, *marks):
        Marked.__init__(self, script, record, *marks)
