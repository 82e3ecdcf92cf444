"""Marks: marked, marks_verdict, shows_marks, fewest."""

import itertools
import random
import unittest

from restartable.errors import MarksError, RecordError, ScriptError, StopsError
from restartable.marks import fewest, marked, marks_verdict, shows_marks
from restartable.scripts import run, stopped
from restartable.verdicts import verdict
from tests import cases, slow
from tests.cases import SESSION

RECORD = (4, 5, 6)
TURN = (2, (("exchange", 0, 1),))
CONSTANT = (2, (("write", 1, 0), ("write", 2, 1), ("exchange", 0, 1)))
LONG = (2, (("exchange", 0, 1),) * 12)
WITH_MARKS = ((SESSION, ()), (SESSION, (1,)), (SESSION, (1, 3)), (TURN, ()), (TURN, (1,)))

# One stop alone does not break these marks, but two, three or four do.
DEEP = (
    ((2, (("copy", 1, 0), ("exchange", 0, 1), ("copy", 1, 0), ("write", 0, 1))), (1,), (4, 1), (0, 1)),
    ((2, (("copy", 1, 0), ("exchange", 0, 1), ("exchange", 1, 0), ("write", 0, 0))), (1,), (4, 1), (0, 1)),
    ((3, (("copy", 0, 1), ("copy", 1, 2), ("exchange", 1, 0), ("exchange", 0, 2), ("exchange", 1, 0), ("write", 0, 0),
          ("copy", 1, 2))), (2,), (6, 1, 2), (1, 0, 0)),
    ((3, (("copy", 1, 0), ("copy", 1, 2), ("exchange", 0, 1), ("copy", 2, 1), ("exchange", 2, 0), ("write", 1, 0),
          ("copy", 1, 2))), (2,), (6, 1, 3), (0, 0, 0)),
    ((4, (("copy", 0, 1), ("copy", 0, 2), ("copy", 0, 3), ("exchange", 1, 2), ("exchange", 1, 2), ("exchange", 1, 0),
          ("exchange", 1, 2), ("copy", 3, 1), ("exchange", 2, 0), ("exchange", 0, 3), ("write", 0, 2),
          ("write", 0, 3))), (3, 12), (11, 1, 3, 7), (1, 0, 0, 0)),
)


def drawn_marks(rng, many):
    """Marks of so many steps: none, some or all."""
    share = rng.choice((0, 2, 5, 8, 10))
    return tuple([mark for mark in range(1, many + 1) if rng.randrange(10) < share])


def drawn_with_marks(seed):
    """Scripts with each number of fields and of steps, each with some marks."""
    rng = random.Random(seed)
    return [(script, drawn_marks(rng, len(script[1]))) for script in cases.drawn_scripts(seed)]


def small_with_marks():
    """All scripts of up to two steps on two fields with all marks, and larger ones with some marks."""
    rng = random.Random(61)
    made = [(script, marks) for script in slow.all_scripts(2, (0, 1), 2) for marks in slow.all_marks(len(script[1]))]
    for fields, many, _ in itertools.product((1, 2, 3), range(7), range(12)):
        made.append((cases.drawn_script(rng, fields, many), drawn_marks(rng, many)))
    return made + [equal_with_marks(rng) for _ in range(500)]


def equal_with_marks(rng):
    """A script that makes its fields equal, with a mark behind this; here harm may need several stops."""
    fields, many = rng.choice(((2, 4), (3, 5)))
    equal = [("copy", 0, field) for field in range(1, fields)]
    rest = [("exchange", *rng.sample(range(fields), 2)) if rng.random() < 0.5 else cases.drawn_step(rng, fields)
            for _ in range(many)]
    late = [mark for mark in range(fields, fields + many) if rng.random() < 0.1]
    return (fields, tuple(equal + rest)), (fields - 1, *late)


class MarkedTest(unittest.TestCase):
    def test_the_session(self):
        self.assertEqual([marked(SESSION, (1, 3), (many,), RECORD) for many in range(5)], [(5, 6, 0)] * 5)
        self.assertEqual(marked(SESSION, (), (2,), RECORD), (0, 6, 0))
        self.assertEqual(marked(SESSION, (1,), (3,), RECORD), (5, 0, 0))
        self.assertEqual(marked(SESSION, (3,), (2,), RECORD), (0, 6, 0))
        self.assertEqual(marked(SESSION, (3,), (2, 3), RECORD), (0, 6, 0))

    def test_no_stops(self):
        for marks in slow.all_marks(3):
            self.assertEqual(marked(SESSION, marks, (), RECORD), (5, 6, 0))

    def test_numbers_are_of_further_steps(self):
        turn = (4, (("exchange", 0, 1), ("exchange", 1, 2), ("exchange", 2, 3)))
        self.assertEqual(marked(turn, (1, 2, 3), (1, 1), (1, 2, 3, 4)), (2, 3, 4, 1))
        self.assertEqual(marked(turn, (1,), (2, 1), (1, 2, 3, 4)), (2, 3, 4, 1))
        self.assertEqual(marked(turn, (1,), (2,), (1, 2, 3, 4)), (2, 1, 4, 3))
        self.assertEqual(marked(turn, (2,), (1, 2), (1, 2, 3, 4)), (1, 3, 4, 2))

    def test_marks_that_are_set_stay_set(self):
        turn = (2, (("exchange", 0, 1), ("exchange", 0, 1), ("exchange", 0, 1)))
        self.assertEqual(marked(turn, (1,), (1, 0, 0, 0), (1, 2)), (2, 1))
        self.assertEqual(marked(turn, (1,), (1, 1, 0, 0), (1, 2)), (1, 2))
        self.assertEqual(marked(turn, (2,), (1, 1), (1, 2)), (2, 1))
        self.assertEqual(marked(turn, (2,), (2, 0), (1, 2)), (2, 1))

    def test_a_mark_at_the_last_step(self):
        for many in range(13):
            for rest in ((), (0,), (1,), (12, 12)):
                self.assertEqual(marked(TURN, (1,), (many, *rest), (1, 2)), (2, 1))

    def test_stops_of_more_steps_than_are_left(self):
        for many in range(1, 13):
            self.assertEqual(marked(TURN, (), (many,), (1, 2)), (1, 2))
            self.assertEqual(marked(TURN, (), (many,) * 8, (1, 2)), (2, 1))
        self.assertEqual(marked(SESSION, (1,), (12,), RECORD), marked(SESSION, (1,), (3,), RECORD))
        self.assertEqual(marked(SESSION, (1,), (1, 12), RECORD), marked(SESSION, (1,), (1, 2), RECORD))

    def test_stops_after_no_step(self):
        for marks in slow.all_marks(3):
            self.assertEqual(marked(SESSION, marks, (0,) * 8, RECORD), (5, 6, 0))

    def test_no_steps(self):
        for fields in range(1, 6):
            for stops in ((), (0,) * 8, (12,) * 8):
                self.assertEqual(marked((fields, ()), (), stops, (9,) * fields), (9,) * fields)

    def test_drawn_runs(self):
        rng = random.Random(62)
        for script, marks in drawn_with_marks(63):
            record = cases.drawn_record(rng, script[0])
            for many in range(9):
                stops = cases.drawn_stops(rng, rng.choice((3, 12)), many)
                expected = slow.marked(script[1], marks, stops, record)
                self.assertEqual(repr(marked(script, marks, stops, record)), repr(expected), (script, marks, stops))

    def test_without_marks_it_is_stopped(self):
        rng = random.Random(64)
        for script in cases.drawn_scripts(65):
            record = cases.drawn_record(rng, script[0])
            stops = cases.drawn_stops(rng, len(script[1]), rng.randint(0, 8))
            self.assertEqual(marked(script, (), stops, record), stopped(script, stops, record))

    def test_errors(self):
        for thing in cases.wrong_scripts():
            self.assertIs(cases.told(marked, (thing, (), (), RECORD)), ScriptError, thing)
        for thing in cases.wrong_marks(3):
            self.assertIs(cases.told(marked, (SESSION, thing, (), RECORD)), MarksError, thing)
        for thing in cases.wrong_stops(12):
            self.assertIs(cases.told(marked, (SESSION, (1, 3), thing, RECORD)), StopsError, thing)
        for thing in cases.wrong_records():
            self.assertIs(cases.told(marked, (SESSION, (1, 3), (2,), thing)), RecordError, thing)

    def test_marks_of_each_length(self):
        for many in range(13):
            script = (1, (("write", 3, 0),) * many)
            every = tuple(range(1, many + 1))
            self.assertEqual(marked(script, every, (), (3,)), (3,))
            for thing in ((0, *every), (*every, many + 1), (*every, many), (many + 1,), (0,), every[::-1] + every):
                error = MarksError if thing else "(3,)"
                self.assertEqual(cases.told(marked, (script, thing, (), (3,))), error, thing)

    def test_each_stop_is_checked(self):
        for place in range(8):
            stops = [12] * 8
            stops[place] = 13
            self.assertIs(cases.told(marked, (SESSION, (), tuple(stops), RECORD)), StopsError)

    def test_the_first_error_is_raised(self):
        errors = (ScriptError, MarksError, StopsError, RecordError)
        for wrongs in ((None, None, None, None), ((6, ()), (4,), (13,), (4, 5)), ([3, ()], (1, 1), (True,), [4, 5, 6])):
            for arguments, error in cases.first_wrong((SESSION, (1, 3), (2,), RECORD), wrongs, errors):
                self.assertEqual(cases.told(marked, arguments), error or "(5, 6, 0)", arguments)

    def test_the_same_call_again(self):
        for thing in [(), (1, 3), *cases.wrong_marks(3)]:
            self.assertTrue(cases.repeats(marked, (SESSION, thing, (2,), RECORD)), thing)


class MarksVerdictTest(unittest.TestCase):
    def test_the_session(self):
        self.assertEqual(repr(marks_verdict(SESSION, (1, 3))), repr(("enough",)))
        self.assertEqual(repr(marks_verdict(SESSION, ())), repr(("stops", (2,), (0, 1, 0))))
        self.assertEqual(repr(marks_verdict(SESSION, (1,))), repr(("stops", (3,), (0, 0, 1))))

    def test_one_stop_is_not_enough(self):
        for script, marks, stops, record in DEEP:
            self.assertEqual(repr(marks_verdict(script, marks)), repr(("stops", stops, record)))
            for one in range(13):
                for row in itertools.product((0, 1), repeat=script[0]):
                    self.assertEqual(slow.marked(script[1], marks, (one,), row), cases.reckoned(script[1], row))
            if script[0] < 4:
                self.assertEqual(marks_verdict(script, marks), slow.marks_verdict(script, marks))

    def test_a_mark_can_do_harm(self):
        self.assertEqual(marks_verdict(CONSTANT, ()), ("enough",))
        self.assertEqual(marks_verdict(CONSTANT, (2,)), ("stops", (3,), (0, 0)))
        self.assertEqual(marks_verdict(CONSTANT, (2, 3)), ("enough",))

    def test_no_steps(self):
        for fields in range(1, 6):
            self.assertEqual(marks_verdict((fields, ()), ()), ("enough",))

    def test_all_marks_are_enough(self):
        for script in [*cases.drawn_scripts(66), LONG]:
            self.assertEqual(marks_verdict(script, tuple(range(1, len(script[1]) + 1))), ("enough",), script)

    def test_no_marks_are_enough_for_safe_scripts_alone(self):
        for script in [*cases.drawn_scripts(67), *slow.all_scripts(2, (0, 1), 2)]:
            found = verdict(script)
            expected = ("enough",) if found[0] == "safe" else ("stops", (found[1],), found[2])
            self.assertEqual(repr(marks_verdict(script, ())), repr(expected), script)

    def test_a_missing_mark(self):
        for missing in range(1, 13):
            marks = tuple([mark for mark in range(1, 13) if mark != missing])
            self.assertEqual(marks_verdict(LONG, marks), ("stops", (missing,), (0, 1)))

    def test_a_slow_search(self):
        lengths = set()
        for script, marks in small_with_marks():
            found = marks_verdict(script, marks)
            self.assertEqual(repr(found), repr(slow.marks_verdict(script, marks)), (script, marks))
            lengths.add(len(found[1]) if found[0] == "stops" else 0)
        self.assertTrue({0, 1, 2} <= lengths, lengths)

    def test_drawn_stops(self):
        rng = random.Random(68)
        for script, marks in drawn_with_marks(69):
            found = marks_verdict(script, marks)
            if found[0] == "stops":
                _, stops, record = found
                self.assertNotEqual(slow.marked(script[1], marks, stops, record), cases.reckoned(script[1], record))
                continue
            self.assertEqual(found, ("enough",))
            for many in range(9):
                record = cases.drawn_record(rng, script[0])
                stops = cases.drawn_stops(rng, 12, many)
                self.assertEqual(slow.marked(script[1], marks, stops, record), cases.reckoned(script[1], record))

    def test_errors(self):
        for thing in cases.wrong_scripts():
            for marks in ((), None, (0,)):
                self.assertIs(cases.told(marks_verdict, (thing, marks)), ScriptError, thing)
        for thing in cases.wrong_marks(3):
            self.assertIs(cases.told(marks_verdict, (SESSION, thing)), MarksError, thing)

    def test_the_same_call_again(self):
        for script, marks in drawn_with_marks(70):
            self.assertTrue(cases.repeats(marks_verdict, (script, marks)))
        for thing in cases.wrong_marks(3):
            self.assertTrue(cases.repeats(marks_verdict, (SESSION, thing)), thing)


class ShowsMarksTest(unittest.TestCase):
    def test_what_marks_verdict_returns(self):
        rows = [*small_with_marks(), *drawn_with_marks(71), *[row[:2] for row in DEEP]]
        for script, marks in rows:
            self.assertIs(shows_marks(script, marks, marks_verdict(script, marks)), True, (script, marks))

    def test_enough(self):
        for script, marks in small_with_marks():
            expected = slow.marks_verdict(script, marks) == ("enough",)
            self.assertIs(shows_marks(script, marks, ("enough",)), expected, (script, marks))

    def test_each_number_and_record(self):
        for script, marks in (*WITH_MARKS, DEEP[0][:2]):
            fields, steps = script
            rows = [stops for many in range(3) for stops in itertools.product(range(-1, 14), repeat=many)]
            for stops, record in itertools.product(rows, slow.all_records(fields, (0, 1))):
                expected = all(0 <= many <= 12 for many in stops) and (
                    slow.marked(steps, marks, stops, record) != cases.reckoned(steps, record))
                self.assertIs(shows_marks(script, marks, ("stops", stops, record)), expected, (script, stops, record))

    def test_each_record_of_the_session(self):
        for many, record in itertools.product((0, 2, 3, 12), slow.all_records(3)):
            expected = slow.marked(SESSION[1], (1,), (many,), record) != cases.reckoned(SESSION[1], record)
            self.assertIs(shows_marks(SESSION, (1,), ("stops", (many,), record)), expected, (many, record))

    def test_stops_of_any_length(self):
        for many in (*range(20), 999, 1000, 7900):
            self.assertIs(shows_marks(TURN, (), ("stops", (1,) * many, (0, 1))), many % 2 == 1)
            self.assertIs(shows_marks(TURN, (1,), ("stops", (1,) * many, (0, 1))), False)
            self.assertIs(shows_marks(SESSION, (), ("stops", (0,) * many + (2,), RECORD)), True)
            self.assertIs(shows_marks(SESSION, (), ("stops", (0,) * many + (13,), RECORD)), False)

    def test_one_part_otherwise(self):
        for script, marks in (*WITH_MARKS, ((5, ()), ())):
            fields, steps = script
            rows = [stops for many in range(4) for stops in itertools.product((0, 1, 2, 3, 12), repeat=many)]
            right = {repr(("stops", stops, record)) for stops in rows
                     for record in slow.all_records(fields, (0, 1, 2, 3) if fields < 5 else (0, 1))
                     if slow.marked(steps, marks, stops, record) != cases.reckoned(steps, record)}
            if not right:
                right = {repr(("enough",))}
            found = marks_verdict(script, marks)
            for thing in [found, *cases.otherwise(found), ("enough",), *cases.otherwise(("enough",))]:
                self.assertIs(shows_marks(script, marks, thing), repr(thing) in right, (script, marks, thing))

    def test_bools_and_lists(self):
        for thing in (("stops", (True,), (0, 1)), ("stops", (1,), (False, True)), ("stops", [1], (0, 1)),
                      ("stops", (1,), [0, 1]), ["stops", (1,), (0, 1)], ("stops", 1, (0, 1)), ("stop", (1,), (0, 1)),
                      ("stops", (1,)), ("stops", (1,), (0, 1), ()), ("stops", (1,), (0, 1, 0)), ("stops", (1,), (0,)),
                      ("stops", (1,), (0, 10)), ("stops", (13,), (0, 1)), ("stops", (-1,), (0, 1)), "stops",
                      ("stops", ((1,),), (0, 1)), ("stops", None, (0, 1)), ("stops", (1,), None), ("enough",), (),
                      ("stops", (), (0, 1)), ("stops", (0,), (0, 1)), ("stops", (1, 1), (0, 1)),
                      ("stops", (1,), (3, 3))):
            self.assertIs(shows_marks(TURN, (), thing), False, thing)
        for thing in (["enough"], "enough", ("enough", ()), ("enough", "enough"), ("Enough",), ("safe",), (None,), (),
                      (("enough",),), (["enough"],), {"enough": True}, ("safe", (0, 1))):
            self.assertIs(shows_marks(TURN, (1,), thing), False, thing)

    def test_any_value(self):
        for marks in ((), (1, 3)):
            for thing in [*cases.wrong_scripts(), *cases.wrong_effects(), *cases.wrong_records(), SESSION, RECORD, ()]:
                self.assertIs(shows_marks(SESSION, marks, thing), False, thing)

    def test_errors(self):
        for shown in (("enough",), None, ("stops", (2,), (0, 1, 0))):
            for thing in cases.wrong_scripts():
                self.assertIs(cases.told(shows_marks, (thing, (), shown)), ScriptError, thing)
                self.assertIs(cases.told(shows_marks, (thing, None, shown)), ScriptError, thing)
            for thing in cases.wrong_marks(3):
                self.assertIs(cases.told(shows_marks, (SESSION, thing, shown)), MarksError, thing)

    def test_the_same_call_again(self):
        for thing in [("enough",), *cases.otherwise(("stops", (2,), (0, 1, 0))), *cases.ODD]:
            self.assertTrue(cases.repeats(shows_marks, (SESSION, (), thing)), thing)
            self.assertTrue(cases.repeats(shows_marks, (SESSION, (1, 3), thing)), thing)
        for thing in cases.wrong_marks(3):
            self.assertTrue(cases.repeats(shows_marks, (SESSION, thing, ("enough",))), thing)


class FewestTest(unittest.TestCase):
    def test_the_session_of_the_overview(self):
        self.assertEqual(repr(fewest(SESSION)), repr((1, 3)))

    def test_none_for_safe_scripts_alone(self):
        for script in [*cases.drawn_scripts(72), (1, ()), (5, ()), CONSTANT]:
            self.assertEqual(fewest(script) == (), verdict(script)[0] == "safe", script)

    def test_all(self):
        for many in range(1, 13):
            script = (2, (("exchange", 0, 1),) * many)
            self.assertEqual(repr(fewest(script)), repr(tuple(range(1, many + 1))))

    def test_the_first_of_the_shortest(self):
        late = (2, (("exchange", 0, 1), ("write", 3, 1), ("write", 3, 1)))
        self.assertEqual([marks_verdict(late, (mark,))[0] for mark in (1, 2, 3)], ["enough", "stops", "stops"])
        self.assertEqual(fewest(late), (1,))
        free = (2, (("write", 3, 1), ("copy", 1, 0), ("write", 3, 1), ("exchange", 0, 1)))
        self.assertEqual(fewest(free), ())
        either = (3, (("copy", 0, 1), ("write", 2, 2), ("write", 2, 2), ("write", 1, 0)))
        self.assertEqual([marks_verdict(either, (mark,))[0] for mark in range(1, 5)], ["enough"] * 4)
        self.assertEqual(fewest(either), (1,))

    def test_marks_that_only_several_stops_break_are_not_enough(self):
        for script, marks, _, _ in DEEP:
            found = fewest(script)
            self.assertNotEqual(found, marks)
            self.assertEqual(marks_verdict(script, found), ("enough",))
            if script[0] < 4:
                self.assertEqual(found, slow.fewest(script))

    def test_a_slow_search(self):
        for script in {script: True for script, _ in small_with_marks() if len(script[1]) < 6}:
            self.assertEqual(repr(fewest(script)), repr(slow.fewest(script)), script)

    def test_all_smaller_marks_of_drawn_scripts(self):
        for script in [script for script in cases.drawn_scripts(73) if len(script[1]) < 9]:
            expected = next(marks for marks in slow.all_marks(len(script[1]))
                            if marks_verdict(script, marks) == ("enough",))
            self.assertEqual(repr(fewest(script)), repr(expected), script)

    def test_long_scripts(self):
        rng = random.Random(74)
        for script in [script for script in cases.drawn_scripts(75) if len(script[1]) > 9]:
            marks = fewest(script)
            for many in range(9):
                record = cases.drawn_record(rng, script[0])
                self.assertEqual(marked(script, marks, cases.drawn_stops(rng, 12, many), record), run(script, record))

    def test_errors(self):
        for thing in cases.wrong_scripts():
            self.assertIs(cases.told(fewest, (thing,)), ScriptError, thing)

    def test_the_same_call_again(self):
        for thing in [*cases.drawn_scripts(76), *cases.wrong_scripts()]:
            self.assertTrue(cases.repeats(fewest, (thing,)), thing)


if __name__ == "__main__":
    unittest.main()
