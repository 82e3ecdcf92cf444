"""Runs: what they are at first, steps, stops, assignments and undo."""

import itertools
import random
import unittest

from restartable.errors import Ended, MarksError, NothingDone, NumberError, RecordError, ScriptError
from restartable.marks import marked
from restartable.objects import Script
from restartable.runs import Counted, CountedMarked, Marked, Run
from restartable.scripts import stopped
from tests import cases, slow
from tests.cases import SESSION
from tests.run_cases import (CLASSES, COUNTING, RECORD, WITH_MARKS, assign, drawn_marks, each_run, facts, history, made,
                             session)


class MadeTest(unittest.TestCase):
    def test_at_first(self):
        script = session()
        run = Run(script, RECORD)
        self.assertIs(run.script, script)
        self.assertEqual(facts(run), repr([RECORD, 0, False, 0, 3, "Run(0 done, 3 left)"]))
        run = Marked(script, RECORD, 1, 3)
        self.assertIs(run.script, script)
        self.assertEqual(facts(run), repr([RECORD, 0, False, 0, 3, "Marked(0 done, 3 left)", (1, 3), 0]))
        run = Counted(script, RECORD)
        self.assertIs(run.script, script)
        self.assertEqual(facts(run), repr([RECORD, 0, False, 0, 3, "Counted(0 done, 3 left)", 1]))
        run = CountedMarked(script, RECORD, 1, 3)
        self.assertIs(run.script, script)
        self.assertEqual(facts(run), repr([RECORD, 0, False, 0, 3, "CountedMarked(0 done, 3 left)", (1, 3), 0, 1]))

    def test_no_marks(self):
        for kind in WITH_MARKS:
            self.assertEqual(repr(kind(session(), RECORD).marks), "()")

    def test_classes(self):
        found = [[isinstance(run, kind) for kind in CLASSES] for run in each_run()]
        self.assertEqual(found, [[True, False, False, False], [True, True, False, False], [True, False, True, False],
                                 [True, True, True, True]])
        self.assertEqual(CountedMarked.__bases__, (Counted, Marked))
        self.assertEqual((Marked.__bases__, Counted.__bases__), ((Run,), (Run,)))

    def test_each_class_has_its_own_properties_alone(self):
        for run in each_run():
            for name, kinds in (("marks", WITH_MARKS), ("mark", WITH_MARKS), ("beginnings", COUNTING)):
                self.assertIs(hasattr(run, name), type(run) in kinds)

    def test_no_steps(self):
        for kind, fields in itertools.product(CLASSES, range(1, 6)):
            run = made(kind, (fields, ()), (9,) * fields)
            self.assertEqual((run.place, run.ended, len(run)), (0, True, 0))
            self.assertIs(cases.told(run.step, ()), Ended)
            run.stop()
            run.finish()
            run.go(0)
            self.assertEqual((run.place, run.ended, len(run), run.changes), (0, True, 0, 3))
            self.assertEqual(run.record, (9,) * fields)

    def test_wrong_scripts(self):
        for kind in CLASSES:
            for thing in [SESSION, SESSION[1], (3, ()), 3, *cases.wrong_scripts()]:
                if not isinstance(thing, Script):
                    self.assertIs(cases.told(kind, (thing, RECORD)), ScriptError, thing)
                    self.assertIs(cases.told(kind, (thing, None)), ScriptError, thing)

    def test_wrong_records(self):
        for kind in CLASSES:
            for thing in cases.wrong_records():
                self.assertIs(cases.told(kind, (session(), thing)), RecordError, thing)
            for fields, size in itertools.product(range(1, 6), range(8)):
                found = cases.told(kind, (Script(fields), (7,) * size))
                self.assertEqual(found is RecordError, size != fields)

    def test_wrong_marks(self):
        for kind in WITH_MARKS:
            for thing in cases.wrong_marks(3):
                if isinstance(thing, tuple) and thing != ():
                    self.assertIs(cases.told(kind, (session(), RECORD, *thing)), MarksError, thing)
                if thing not in (1, 3) or isinstance(thing, bool):
                    self.assertIs(cases.told(kind, (session(), RECORD, thing)), MarksError, thing)
                    self.assertIs(cases.told(kind, (session(), RECORD, 1, thing)), MarksError, thing)

    def test_marks_of_each_length(self):
        for kind, many in itertools.product(WITH_MARKS, range(13)):
            script = Script(1, *[("write", 3, 0)] * many)
            for marks in slow.all_marks(many)[::5]:
                self.assertEqual(kind(script, (5,), *marks).marks, marks)
            self.assertIs(cases.told(kind, (script, (5,), many + 1)), MarksError)
            self.assertIs(cases.told(kind, (script, (5,), 0)), MarksError)

    def test_the_first_error_is_raised(self):
        for kind in CLASSES:
            for wrongs in ((None, None), (SESSION, (4, 5)), (RECORD, [4, 5, 6]), (SESSION, SESSION)):
                for arguments, error in cases.first_wrong((session(), RECORD), wrongs, (ScriptError, RecordError)):
                    self.assertEqual(cases.told(kind, arguments), error or f"{kind.__name__}(0 done, 3 left)")
        for kind in WITH_MARKS:
            for wrongs in ((None, None, None), (SESSION, (4, 5), 0), (RECORD, [4, 5, 6], True), (SESSION, 3, 4)):
                rows = cases.first_wrong((session(), RECORD, 1), wrongs, (ScriptError, RecordError, MarksError))
                for arguments, error in rows:
                    self.assertEqual(cases.told(kind, arguments), error or f"{kind.__name__}(0 done, 3 left)")

    def test_the_arguments_stay(self):
        for kind in CLASSES:
            self.assertTrue(cases.repeats(kind, (session(), RECORD)))
            for thing in cases.ODD:
                self.assertTrue(cases.repeats(kind, (thing, RECORD)), thing)
                self.assertTrue(cases.repeats(kind, (session(), thing)), thing)


class StepsTest(unittest.TestCase):
    def test_step(self):
        for run in each_run():
            rows = []
            for _ in range(3):
                self.assertIsNone(run.step())
                rows.append((run.record, run.place, len(run), run.ended, run.changes))
            self.assertEqual(repr(rows), repr([((5, 5, 6), 1, 2, False, 1), ((5, 0, 6), 2, 1, False, 2),
                                               ((5, 6, 0), 3, 0, True, 3)]))

    def test_ended(self):
        for run in each_run():
            run.finish()
            before = history(run)
            for _ in range(2):
                self.assertIs(cases.told(run.step, ()), Ended)
                self.assertEqual(history(run), before)

    def test_go(self):
        for many, call in itertools.product(range(4), (lambda run, many: run.go(many), lambda run, many: run(many))):
            for run in each_run():
                self.assertIsNone(call(run, many))
                expected = (cases.reckoned(SESSION[1][:many], RECORD), many, 3 - many, many == 3, 1)
                self.assertEqual((run.record, run.place, len(run), run.ended, run.changes), expected)
                self.assertIsNone(call(run, 3 - many))
                self.assertEqual((run.record, run.place, len(run), run.changes), ((5, 6, 0), 3, 0, 2))
                self.assertIsNone(call(run, 0))
                self.assertEqual((run.record, run.place, len(run), run.changes), ((5, 6, 0), 3, 0, 3))

    def test_wrong_numbers(self):
        for run, done in itertools.product(each_run(), range(4)):
            run.undo() if run.changes else None
            run.go(done)
            before = history(run)
            for thing in [*cases.wrong_numbers(3 - done), *cases.ODD]:
                self.assertIs(cases.told(run.go, (thing,)), NumberError, thing)
                self.assertIs(cases.told(run, (thing,)), NumberError, thing)
            self.assertEqual(history(run), before)

    def test_finish(self):
        for run, done in itertools.product(each_run(), range(4)):
            run.go(done)
            self.assertIsNone(run.finish())
            self.assertEqual((run.record, run.place, run.ended, len(run), run.changes), ((5, 6, 0), 3, True, 0, 2))
            self.assertIsNone(run.finish())
            self.assertEqual((run.record, run.place, run.changes), ((5, 6, 0), 3, 3))
            while run.changes:
                run.undo()

    def test_repr(self):
        for run in each_run():
            name = type(run).__name__
            rows = [repr(run)] + [run.step() or repr(run) for _ in range(3)]
            self.assertEqual(rows, [f"{name}({many} done, {3 - many} left)" for many in range(4)])
        run = Run(session(), RECORD)
        run.go(2)
        self.assertEqual(repr(run), "Run(2 done, 1 left)")


class StopTest(unittest.TestCase):
    def test_begun_again_with_the_first_step(self):
        for kind in (Run, Counted):
            for done in range(4):
                run = made(kind, SESSION, RECORD)
                run.go(done)
                record = run.record
                self.assertIsNone(run.stop())
                self.assertEqual((run.record, run.place, run.ended, len(run), run.changes), (record, 0, False, 3, 2))
                run.finish()
                self.assertEqual(run.record, stopped(SESSION, (done,), RECORD))

    def test_at_its_end(self):
        run = Run(Script(2, ("exchange", 0, 1)), (1, 2))
        rows = []
        for _ in range(4):
            run.finish()
            run.stop()
            rows.append((run.record, run.place, run.ended))
        self.assertEqual(rows, [((2, 1), 0, False), ((1, 2), 0, False)] * 2)

    def test_stops_of_stopped(self):
        rng = random.Random(121)
        for script in cases.drawn_scripts(121):
            record = cases.drawn_record(rng, script[0])
            stops = cases.drawn_stops(rng, len(script[1]), rng.randint(0, 8))
            for kind in CLASSES:
                run = made(kind, script, record)
                for many in stops:
                    run.go(many)
                    run.stop()
                run.finish()
                self.assertEqual(run.record, cases.reckoned_stopped(script[1], stops, record))
                self.assertEqual(run.record, stopped(script, stops, record))

    def test_stops_of_marked(self):
        rng = random.Random(122)
        for script in cases.drawn_scripts(122):
            record = cases.drawn_record(rng, script[0])
            marks = drawn_marks(rng, len(script[1]))
            stops = cases.drawn_stops(rng, rng.choice((3, 12)), rng.randint(0, 8))
            for kind in WITH_MARKS:
                run = made(kind, script, record, marks)
                for many in stops:
                    run.go(min(many, len(run)))
                    run.stop()
                run.finish()
                self.assertEqual(run.record, slow.marked(script[1], marks, stops, record))
                self.assertEqual(run.record, marked(script, marks, stops, record))

    def test_all_runs_of_small_scripts(self):
        for script in slow.all_scripts(2, (0, 1), 2):
            for marks in slow.all_marks(len(script[1])):
                for stops in itertools.product(range(3), repeat=2):
                    run = made(Marked, script, (4, 5), marks)
                    for many in stops:
                        run.go(min(many, len(run)))
                        run.stop()
                    run.finish()
                    self.assertEqual(run.record, slow.marked(script[1], marks, stops, (4, 5)), (script, marks, stops))


class RecordTest(unittest.TestCase):
    def test_the_record_alone_is_changed(self):
        for change in (assign, lambda run, record: run.assign_record(record)):
            for run in each_run():
                run.go(2)
                run.stop()
                run.step()
                before = facts(run)
                self.assertIsNone(change(run, (9, 8, 7)))
                self.assertEqual(run.record, (9, 8, 7))
                self.assertEqual(run.changes, 4)
                run.undo()
                self.assertEqual(facts(run), before)

    def test_the_run_goes_on_with_it(self):
        run = Run(session(), RECORD)
        run.go(2)
        run.record = (9, 8, 7)
        run.finish()
        self.assertEqual(run.record, (9, 7, 8))

    def test_at_its_end(self):
        for run in each_run():
            run.finish()
            run.record = (1, 1, 1)
            self.assertEqual((run.record, run.place, run.ended, run.changes), ((1, 1, 1), 3, True, 2))

    def test_errors(self):
        for run in each_run():
            run.step()
            before = history(run)
            for thing in cases.wrong_records():
                self.assertIs(cases.told(run.assign_record, (thing,)), RecordError, thing)
                self.assertIs(cases.told(assign, (run, thing)), RecordError, thing)
                self.assertEqual(facts(run), before[0])
            self.assertEqual(history(run), before)

    def test_other_properties_are_not_assigned(self):
        for run in each_run():
            before = facts(run)
            for name in ("script", "place", "ended", "changes"):
                with self.assertRaises(AttributeError):
                    setattr(run, name, 0)
            for name in ("marks", "mark", "beginnings"):
                if hasattr(run, name):
                    with self.assertRaises(AttributeError):
                        setattr(run, name, 0)
            self.assertEqual(facts(run), before)


class UndoTest(unittest.TestCase):
    def test_each_change(self):
        changes = (lambda run: run.step(), lambda run: run.go(2), lambda run: run(1), lambda run: run.go(0),
                   lambda run: run(0), lambda run: run.stop(), lambda run: run.finish(),
                   lambda run: run.assign_record((1, 2, 3)), lambda run: assign(run, (1, 2, 3)))
        for change in changes:
            for run in each_run():
                run.step()
                before = history(run)
                change(run)
                self.assertEqual(run.changes, 2)
                self.assertIsNone(run.undo())
                self.assertEqual(history(run), before)

    def test_changes_that_made_no_difference(self):
        for run in each_run():
            rows = (lambda: run.go(0), lambda: run(0), run.stop, lambda: assign(run, run.record))
            for many, change in enumerate(rows, 1):
                change()
                self.assertEqual(run.changes, many)
            run.finish()
            run.finish()
            self.assertEqual(run.changes, 6)
            for many in range(5, -1, -1):
                run.undo()
                self.assertEqual(run.changes, many)

    def test_down_to_the_beginning_and_once_more(self):
        for run in each_run():
            first = facts(run)
            self.assertIs(cases.told(run.undo, ()), NothingDone)
            for change in (run.step, run.stop, run.finish, lambda: run.assign_record((0, 0, 0)), run.stop):
                change()
            for many in range(4, -1, -1):
                run.undo()
                self.assertEqual(run.changes, many)
            self.assertEqual(facts(run), first)
            for _ in range(2):
                self.assertIs(cases.told(run.undo, ()), NothingDone)
                self.assertEqual(facts(run), first)
            run.finish()
            self.assertEqual(run.record, (5, 6, 0))

    def test_an_undo_is_not_taken_back(self):
        run = Run(session(), RECORD)
        run.step()
        run.step()
        run.undo()
        run.undo()
        self.assertEqual((run.place, run.changes), (0, 0))

    def test_very_many_changes(self):
        run = CountedMarked(Script(2, ("exchange", 0, 1)), (1, 2))
        for _ in range(5000):
            run.step()
            run.stop()
        self.assertEqual((run.changes, run.beginnings, run.record), (10000, 5001, (1, 2)))
        for _ in range(9999):
            run.undo()
        self.assertEqual((run.changes, run.beginnings, run.record), (1, 1, (2, 1)))


if __name__ == "__main__":
    unittest.main()
