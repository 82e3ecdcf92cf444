"""Scripts: is_script, run, behind, stopped."""

import itertools
import random
import unittest

from restartable.errors import NumberError, RecordError, ScriptError, StopsError
from restartable.scripts import behind, is_script, run, stopped
from tests import cases
from tests.cases import SESSION

RECORD = (4, 5, 6)


class IsScriptTest(unittest.TestCase):
    def test_drawn_scripts(self):
        for script in cases.drawn_scripts(1):
            self.assertIs(is_script(script), True, script)

    def test_edges(self):
        for fields in range(1, 6):
            last = fields - 1
            self.assertIs(is_script((fields, ())), True)
            for value in range(10):
                self.assertIs(is_script((fields, (("write", value, last),) * 12)), True)
        for one, other in itertools.permutations(range(5), 2):
            self.assertIs(is_script((5, (("copy", one, other), ("exchange", one, other)))), True)

    def test_every_small_step_on_two_fields(self):
        good = {("copy", 0, 1), ("copy", 1, 0), ("exchange", 0, 1), ("exchange", 1, 0)}
        good |= {("write", value, field) for value in range(10) for field in range(2)}
        for step in itertools.product(("copy", "write", "exchange"), range(-2, 12), range(-2, 12)):
            self.assertIs(is_script((2, (step,))), step in good, step)

    def test_wrong_scripts(self):
        for thing in cases.wrong_scripts():
            self.assertIs(is_script(thing), False, thing)

    def test_a_step_is_checked_wherever_it_stands(self):
        good = ("write", 0, 0)
        for place in range(12):
            steps = [good] * 12
            steps[place] = ("write", 10, 0)
            self.assertIs(is_script((1, tuple(steps))), False)

    def test_kinds_must_agree(self):
        for script in cases.drawn_scripts(2):
            self.assertIs(is_script(cases.lists_for_tuples(script)), False)
            self.assertIs(is_script((script[0], list(script[1]))), False)
        self.assertIs(is_script((True, (("write", 0, 0),))), False)
        self.assertIs(is_script((2, (("copy", True, False),))), False)

    def test_other_things_of_the_package_are_no_scripts(self):
        for thing in (SESSION[1], RECORD, (2,), cases.SESSION_EFFECT, cases.SESSION_EFFECT[:2]):
            self.assertIs(is_script(thing), False, thing)

    def test_arguments_stay(self):
        for thing in [SESSION, *cases.wrong_scripts()]:
            self.assertTrue(cases.repeats(is_script, (thing,)), thing)


class RunTest(unittest.TestCase):
    def test_the_session_of_the_overview(self):
        self.assertEqual(run(SESSION, RECORD), (5, 6, 0))
        self.assertEqual(stopped(SESSION, (2,), RECORD), (0, 6, 0))

    def test_each_kind_of_step(self):
        self.assertEqual(run((3, (("copy", 0, 2),)), RECORD), (4, 5, 4))
        self.assertEqual(run((3, (("copy", 2, 0),)), RECORD), (6, 5, 6))
        self.assertEqual(run((3, (("write", 1, 2),)), RECORD), (4, 5, 1))
        self.assertEqual(run((3, (("write", 9, 0),)), RECORD), (9, 5, 6))
        self.assertEqual(run((3, (("exchange", 0, 2),)), RECORD), (6, 5, 4))
        self.assertEqual(run((3, (("exchange", 2, 1),)), RECORD), (4, 6, 5))

    def test_no_steps(self):
        for fields in range(1, 6):
            for value in (0, 9):
                self.assertEqual(run((fields, ()), (value,) * fields), (value,) * fields)
                self.assertEqual(behind((fields, ()), 0, (value,) * fields), (value,) * fields)
                self.assertEqual(stopped((fields, ()), (0,) * 8, (value,) * fields), (value,) * fields)

    def test_drawn_runs(self):
        rng = random.Random(3)
        for script in cases.drawn_scripts(3):
            record = cases.drawn_record(rng, script[0])
            self.assertEqual(repr(run(script, record)), repr(cases.reckoned(script[1], record)), script)

    def test_errors(self):
        for thing in cases.wrong_scripts():
            self.assertIs(cases.told(run, (thing, RECORD)), ScriptError, thing)
        for thing in cases.wrong_records():
            self.assertIs(cases.told(run, (SESSION, thing)), RecordError, thing)

    def test_the_first_error_is_raised(self):
        for script, record in itertools.product(cases.wrong_scripts(), (None, (4, 5), [4, 5, 6])):
            self.assertIs(cases.told(run, (script, record)), ScriptError)

    def test_records_of_another_size(self):
        for fields, size in itertools.product(range(1, 6), range(8)):
            expected = repr((7,) * size) if size == fields else RecordError
            self.assertEqual(cases.told(run, ((fields, ()), (7,) * size)), expected)

    def test_the_same_call_again(self):
        rng = random.Random(4)
        for script in cases.drawn_scripts(4):
            self.assertTrue(cases.repeats(run, (script, cases.drawn_record(rng, script[0]))))
        for thing in cases.wrong_records():
            self.assertTrue(cases.repeats(run, (SESSION, thing)), thing)


class BehindTest(unittest.TestCase):
    def test_each_number_of_steps_of_the_session(self):
        found = [behind(SESSION, many, RECORD) for many in range(4)]
        self.assertEqual(found, [(4, 5, 6), (5, 5, 6), (5, 0, 6), (5, 6, 0)])

    def test_drawn_scripts_at_each_number(self):
        rng = random.Random(5)
        for script in cases.drawn_scripts(5):
            record = cases.drawn_record(rng, script[0])
            for many in range(len(script[1]) + 1):
                expected = cases.reckoned(script[1][:many], record)
                self.assertEqual(repr(behind(script, many, record)), repr(expected))
            self.assertEqual(behind(script, len(script[1]), record), run(script, record))

    def test_errors(self):
        for thing in cases.wrong_scripts():
            self.assertIs(cases.told(behind, (thing, 0, RECORD)), ScriptError, thing)
        for thing in cases.wrong_numbers(3):
            self.assertIs(cases.told(behind, (SESSION, thing, RECORD)), NumberError, thing)
        for thing in cases.wrong_records():
            self.assertIs(cases.told(behind, (SESSION, 3, thing)), RecordError, thing)

    def test_limits_of_the_number_for_each_length(self):
        for many in range(13):
            script = (1, (("write", 3, 0),) * many)
            for thing in cases.wrong_numbers(many):
                self.assertIs(cases.told(behind, (script, thing, (5,))), NumberError, thing)

    def test_the_first_error_is_raised(self):
        errors = (ScriptError, NumberError, RecordError)
        for wrongs in ((None, None, None), ((6, ()), 4, (4, 5)), ([3, ()], True, [4, 5, 6])):
            for arguments, error in cases.first_wrong((SESSION, 2, RECORD), wrongs, errors):
                self.assertEqual(cases.told(behind, arguments), error or "(5, 0, 6)", arguments)

    def test_the_same_call_again(self):
        for thing in [0, 3, *cases.wrong_numbers(3)]:
            self.assertTrue(cases.repeats(behind, (SESSION, thing, RECORD)), thing)


class StoppedTest(unittest.TestCase):
    def test_single_stops_of_the_session(self):
        found = [stopped(SESSION, (many,), RECORD) for many in range(4)]
        self.assertEqual(found, [(5, 6, 0), (5, 6, 0), (0, 6, 0), (6, 0, 0)])

    def test_no_stops(self):
        self.assertEqual(stopped(SESSION, (), RECORD), (5, 6, 0))

    def test_each_beginning_is_at_the_first_step(self):
        turn = (3, (("exchange", 0, 1), ("exchange", 1, 2)))
        self.assertEqual(stopped(turn, (1,), RECORD), (4, 6, 5))
        self.assertEqual(stopped(turn, (1, 1), RECORD), (5, 6, 4))
        self.assertEqual(stopped(turn, (2,), RECORD), (6, 4, 5))
        self.assertEqual(stopped(turn, (1, 2), RECORD), (6, 5, 4))
        self.assertEqual(stopped(turn, (2, 1), RECORD), (5, 4, 6))

    def test_stops_behind_the_last_step(self):
        turn = (2, (("exchange", 0, 1),))
        for many in range(9):
            expected = (1, 2) if many % 2 else (2, 1)
            self.assertEqual(stopped(turn, (1,) * many, (1, 2)), expected)
            self.assertEqual(stopped(turn, (0,) * many, (1, 2)), (2, 1))

    def test_drawn_stops(self):
        rng = random.Random(6)
        for script in cases.drawn_scripts(6):
            most = len(script[1])
            record = cases.drawn_record(rng, script[0])
            rows = [cases.drawn_stops(rng, most, many) for many in range(9)] + [(0,) * 8, (most,) * 8]
            for stops in rows:
                expected = cases.reckoned_stopped(script[1], stops, record)
                self.assertEqual(repr(stopped(script, stops, record)), repr(expected), (script, stops))

    def test_errors(self):
        for thing in cases.wrong_scripts():
            self.assertIs(cases.told(stopped, (thing, (), RECORD)), ScriptError, thing)
        for thing in cases.wrong_stops(3):
            self.assertIs(cases.told(stopped, (SESSION, thing, RECORD)), StopsError, thing)
        for thing in cases.wrong_records():
            self.assertIs(cases.told(stopped, (SESSION, (3, 0), thing)), RecordError, thing)

    def test_each_stop_is_checked(self):
        for many, place in itertools.product((1, 5, 8), range(8)):
            if place < many:
                stops = [3] * many
                stops[place] = 4
                self.assertIs(cases.told(stopped, (SESSION, tuple(stops), RECORD)), StopsError)

    def test_the_first_error_is_raised(self):
        errors = (ScriptError, StopsError, RecordError)
        for wrongs in ((None, None, None), ((6, ()), (4,), (4, 5)), ([3, ()], (True,), [4, 5, 6])):
            for arguments, error in cases.first_wrong((SESSION, (2,), RECORD), wrongs, errors):
                self.assertEqual(cases.told(stopped, arguments), error or "(0, 6, 0)", arguments)

    def test_the_same_call_again(self):
        for thing in [(), (2, 3), *cases.wrong_stops(3)]:
            self.assertTrue(cases.repeats(stopped, (SESSION, thing, RECORD)), thing)


if __name__ == "__main__":
    unittest.main()
