"""Runs: trying."""

import itertools
import unittest

from restartable.errors import NumberError
from restartable.runs import Run
from tests.run_cases import RECORD, Broken, each_run, history, session


class TryingTest(unittest.TestCase):
    def test_a_block_that_ends(self):
        for run in each_run():
            with run.trying():
                run.go(2)
                run.stop()
            self.assertEqual((run.record, run.changes), ((5, 0, 6), 2))
            run.undo()
            self.assertEqual((run.place, run.changes), (2, 1))

    def test_a_block_that_raises(self):
        for run in each_run():
            run.step()
            before = history(run)
            for error in (Broken("so"), ValueError(), KeyboardInterrupt(), GeneratorExit()):
                with self.assertRaises(type(error)) as caught:
                    with run.trying():
                        run.finish()
                        run.stop()
                        run.record = (0, 0, 0)
                        raise error
                self.assertIs(caught.exception, error)
                self.assertEqual(history(run), before)

    def test_an_error_of_the_run(self):
        for run in each_run():
            before = history(run)
            with self.assertRaises(NumberError):
                with run.trying():
                    run.step()
                    run.go(3)
            self.assertEqual(history(run), before)

    def test_an_error_that_does_not_leave_the_block(self):
        run = Run(session(), RECORD)
        with run.trying():
            run.step()
            try:
                raise Broken
            except Broken:
                run.step()
        self.assertEqual((run.place, run.changes), (2, 2))

    def test_changes_before_the_block_that_it_takes_back(self):
        for run in each_run():
            run.step()
            run.stop()
            run.step()
            before = history(run)
            with self.assertRaises(Broken):
                with run.trying():
                    while run.changes:
                        run.undo()
                    run.record = (0, 0, 0)
                    run.finish()
                    raise Broken
            self.assertEqual(history(run), before)
            run.undo()
            self.assertEqual(history(run), before[1:])

    def test_it_counts_from_where_the_block_begins(self):
        run = Run(session(), RECORD)
        attempt = run.trying()
        run.step()
        with self.assertRaises(Broken):
            with attempt:
                run.step()
                raise Broken
        self.assertEqual((run.place, run.changes), (1, 1))

    def test_trying_does_nothing_itself(self):
        for run in each_run():
            before = history(run)
            run.trying()
            with run.trying():
                pass
            self.assertEqual(history(run), before)

    def test_within_trying(self):
        for inner, outer in itertools.product((False, True), repeat=2):
            for run in each_run():
                run.step()
                try:
                    with run.trying():
                        run.step()
                        try:
                            with run.trying():
                                run.step()
                                if inner:
                                    raise Broken
                        except Broken:
                            self.assertEqual((run.place, run.changes), (2, 2))
                        self.assertEqual((run.place, run.changes), (2, 2) if inner else (3, 3))
                        if outer:
                            raise Broken
                except Broken:
                    self.assertEqual((run.place, run.changes), (1, 1))
                expected = 1 if outer else 2 if inner else 3
                self.assertEqual((run.place, run.changes), (expected, expected))

    def test_one_error_leaves_both_blocks(self):
        run = Run(session(), RECORD)
        with self.assertRaises(Broken):
            with run.trying():
                run.step()
                with run.trying():
                    run.step()
                    raise Broken
        self.assertEqual((run.place, run.changes), (0, 0))

    def test_the_same_context_manager_again(self):
        run = Run(session(), RECORD)
        attempt = run.trying()
        for many in range(3):
            with self.assertRaises(Broken):
                with attempt:
                    run.stop()
                    raise Broken
            with attempt:
                run.step()
            self.assertEqual((run.place, run.changes), (many + 1, many + 1))

    def test_the_same_context_manager_within_its_block(self):
        run = Run(session(), RECORD)
        attempt = run.trying()
        with self.assertRaises(Broken):
            with attempt:
                run.step()
                with attempt:
                    run.step()
                self.assertEqual(run.place, 2)
                with self.assertRaises(Broken):
                    with attempt:
                        run.step()
                        raise Broken
                self.assertEqual(run.place, 2)
                raise Broken
        self.assertEqual((run.place, run.changes), (0, 0))

    def test_two_runs(self):
        script = session()
        one, other = Run(script, RECORD), Run(script, RECORD)
        with self.assertRaises(Broken):
            with one.trying():
                one.step()
                other.step()
                raise Broken
        self.assertEqual((one.place, other.place), (0, 1))


if __name__ == "__main__":
    unittest.main()
