"""Runs with marks, and runs that count their beginnings."""

import unittest

from restartable.errors import Ended
from restartable.runs import CountedMarked
from tests import cases
from tests.run_cases import COUNTING, RECORD, WITH_MARKS, assign, session


class MarksTest(unittest.TestCase):
    def test_the_session(self):
        for kind in WITH_MARKS:
            run = kind(session(), RECORD, 1, 3)
            marks = [run.mark] + [run.step() or run.mark for _ in range(3)]
            self.assertEqual(repr(marks), repr([0, 1, 1, 3]))
            self.assertEqual(run.marks, (1, 3))

    def test_begun_again_behind_the_last_mark(self):
        for kind in WITH_MARKS:
            run = kind(session(), RECORD, 1, 3)
            run.go(2)
            run.stop()
            self.assertEqual((run.place, run.mark, run.record, len(run)), (1, 1, (5, 0, 6), 2))
            run.finish()
            self.assertEqual(run.record, (5, 6, 0))

    def test_a_mark_that_is_set_stays_set(self):
        for kind in WITH_MARKS:
            run = kind(session(), RECORD, 1, 3)
            run.step()
            for _ in range(3):
                run.stop()
                self.assertEqual((run.place, run.mark), (1, 1))
            run.step()
            run.stop()
            self.assertEqual((run.place, run.mark), (1, 1))
            run.go(0)
            run.record = (0, 0, 0)
            self.assertEqual((run.place, run.mark), (1, 1))

    def test_a_stop_before_the_first_mark(self):
        for kind in WITH_MARKS:
            run = kind(session(), RECORD, 2)
            run.step()
            run.stop()
            self.assertEqual((run.place, run.mark), (0, 0))

    def test_a_mark_at_the_last_step(self):
        for kind in WITH_MARKS:
            run = kind(session(), RECORD, 3)
            run.go(2)
            run.stop()
            self.assertEqual((run.place, run.mark), (0, 0))
            run.finish()
            for _ in range(2):
                run.stop()
                self.assertEqual((run.place, run.mark, run.ended, len(run)), (3, 3, True, 0))
            self.assertIs(cases.told(run.step, ()), Ended)
            run.finish()
            self.assertEqual((run.place, run.ended), (3, True))

    def test_undo_takes_marks_back(self):
        for kind in WITH_MARKS:
            run = kind(session(), RECORD, 1, 2, 3)
            run.step()
            run.go(2)
            self.assertEqual(run.mark, 3)
            run.undo()
            self.assertEqual((run.mark, run.place), (1, 1))
            run.undo()
            self.assertEqual((run.mark, run.place), (0, 0))
            run.stop()
            self.assertEqual((run.mark, run.place), (0, 0))
            run.finish()
            run.stop()
            run.undo()
            self.assertEqual((run.mark, run.place, run.ended), (3, 3, True))
            run.undo()
            self.assertEqual((run.mark, run.place, run.ended), (0, 0, False))


class BeginningsTest(unittest.TestCase):
    def test_stops_alone_count(self):
        for kind in COUNTING:
            run = kind(session(), RECORD)
            self.assertEqual(repr(run.beginnings), "1")
            for change in (run.step, lambda: run.go(1), lambda: run(0), run.finish, lambda: run.assign_record(RECORD),
                           lambda: assign(run, RECORD)):
                change()
                self.assertEqual(run.beginnings, 1)
            run.stop()
            self.assertEqual(run.beginnings, 2)
            run.stop()
            self.assertEqual(run.beginnings, 3)

    def test_undo_of_a_stop(self):
        for kind in COUNTING:
            run = kind(session(), RECORD)
            run.stop()
            run.step()
            run.stop()
            run.finish()
            found = [run.beginnings] + [run.undo() or run.beginnings for _ in range(4)]
            self.assertEqual(found, [3, 3, 2, 2, 1])

    def test_both(self):
        run = CountedMarked(session(), RECORD, 1, 3)
        run.go(2)
        run.stop()
        self.assertEqual((run.place, run.mark, run.beginnings), (1, 1, 2))
        run.undo()
        self.assertEqual((run.place, run.mark, run.beginnings), (2, 1, 1))


if __name__ == "__main__":
    unittest.main()
