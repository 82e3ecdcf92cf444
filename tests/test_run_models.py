"""Runs against a model that does one step at a time."""

import random
import unittest

from restartable.errors import Ended, NothingDone, NumberError, RecordError
from restartable.runs import Run
from tests import cases
from tests.model import Model
from tests.run_cases import CLASSES, WITH_MARKS, Broken, assign, drawn_marks, facts, made


class ModelTest(unittest.TestCase):
    """Drawn changes, right and wrong ones, done by a run and by a model of it."""

    def some(self, rng, run, model, depth=0):
        for _ in range(rng.randint(1, 12)):
            self.change(rng, run, model, depth)
            self.assertEqual(facts(run), model.facts(type(run).__name__))

    def change(self, rng, run, model, depth):
        word = rng.choice(("step", "go", "call", "stop", "finish", "assign", "record", "undo", "undo", "trying"))
        many, record = rng.randint(-1, len(model.steps) + 1), cases.drawn_record(rng, len(model.record))
        if word == "step":
            self.both(run.step, model.step, (), None if model.left() else Ended)
        elif word in ("go", "call"):
            error = None if 0 <= many <= model.left() else NumberError
            self.both(run.go if word == "go" else run, model.go, (many,), error)
        elif word in ("stop", "finish"):
            self.both(getattr(run, word), getattr(model, word), (), None)
        elif word in ("assign", "record"):
            setting = run.assign_record if word == "assign" else lambda value: assign(run, value)
            self.both(setting, model.assign_record, (record,), None)
            self.both(setting, model.assign_record, (rng.choice((None, list(record), record + (0,))),), RecordError)
        elif word == "undo":
            self.both(run.undo, model.undo, (), None if model.older else NothingDone)
        elif depth < 3:
            self.block(rng, run, model, depth + 1)

    def both(self, mine, its, arguments, error):
        self.assertEqual(cases.told(mine, arguments), error or "None")
        if error is None:
            its(*arguments)

    def block(self, rng, run, model, depth):
        raises = rng.random() < 0.5
        try:
            with run.trying(), model.trying():
                self.some(rng, run, model, depth)
                if raises:
                    raise Broken
        except Broken:
            self.assertTrue(raises)

    def test_drawn_changes(self):
        rng = random.Random(123)
        for script in cases.drawn_scripts(123):
            for kind in CLASSES:
                record, marks = cases.drawn_record(rng, script[0]), drawn_marks(rng, len(script[1]))
                marks = marks if kind in WITH_MARKS else ()
                run, model = made(kind, script, record, marks), Model(script[1], record, marks)
                other = Run(run.script, record)
                for _ in range(4):
                    self.some(rng, run, model)
                self.assertEqual(run.script.plain, script)
                self.assertEqual(facts(other), Model(script[1], record).facts("Run"))
                while model.older:
                    run.undo()
                    model.undo()
                    self.assertEqual(facts(run), model.facts(kind.__name__))
                self.assertIs(cases.told(run.undo, ()), NothingDone)


if __name__ == "__main__":
    unittest.main()
