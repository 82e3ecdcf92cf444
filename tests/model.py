"""A second way to reckon runs: one step at a time, with a list of the marks that are set, and copies for undo."""

import contextlib

from tests import cases


class Model:
    def __init__(self, steps, record, marks=()):
        self.steps, self.marks = steps, marks
        self.record, self.place, self.set, self.beginnings, self.older = record, 0, [], 1, []

    def kept(self):
        return self.record, self.place, list(self.set), self.beginnings, list(self.older)

    def bring(self, kept):
        # The lists in what was kept stay as they are, as another block may bring it back once more.
        self.record, self.place, marks_set, self.beginnings, older = kept
        self.set, self.older = list(marks_set), list(older)

    def remember(self):
        self.older.append(self.kept())

    def one_step(self):
        self.record = cases.reckoned([self.steps[self.place]], self.record)
        self.place += 1
        if self.place in self.marks:
            self.set.append(self.place)

    def go(self, many):
        self.remember()
        for _ in range(many):
            self.one_step()

    def step(self):
        self.go(1)

    def finish(self):
        self.go(len(self.steps) - self.place)

    def stop(self):
        self.remember()
        self.place = max(self.set, default=0)
        self.beginnings += 1

    def assign_record(self, record):
        self.remember()
        self.record = record

    def undo(self):
        self.bring(self.older[-1])

    @contextlib.contextmanager
    def trying(self):
        kept = self.kept()
        try:
            yield
        except BaseException:
            self.bring(kept)
            raise

    def mark(self):
        return max(self.set, default=0)

    def left(self):
        return len(self.steps) - self.place

    def facts(self, name):
        """The same as facts of a run of the class with this name."""
        told = [self.record, self.place, self.left() == 0, len(self.older), self.left(),
                f"{name}({self.place} done, {self.left()} left)"]
        if "Marked" in name:
            told += [self.marks, self.mark()]
        if "Counted" in name:
            told += [self.beginnings]
        return repr(told)
