"""Safe scripts: verdict, shows_verdict, results, outcomes."""

import itertools
import random
import unittest

from restartable.effects import effect, effect_behind, is_effect, matters
from restartable.errors import RecordError, ScriptError
from restartable.scripts import run, stopped
from restartable.verdicts import outcomes, results, shows_verdict, verdict
from tests import cases, slow
from tests.cases import SESSION

RECORD = (4, 5, 6)
SAFE = (3, (("copy", 1, 0), ("write", 0, 2)))
TURN = (2, (("exchange", 0, 1),))
CONSTANT = (2, (("write", 1, 0), ("write", 2, 1), ("exchange", 0, 1)))


def small_scripts():
    """All scripts of up to two steps on two fields, and drawn ones of up to six steps on one to three."""
    rng = random.Random(31)
    drawn = [cases.drawn_script(rng, fields, many) for fields in (1, 2, 3) for many in range(7) for _ in range(8)]
    return slow.all_scripts(2, (0, 1), 2) + drawn


def safe_by_the_words(script):
    """Whether every field that matters is unchanged behind each number of steps."""
    return all(effect_behind(script, many)[field] == ("field", field)
               for many in range(len(script[1]) + 1) for field in matters(script))


class VerdictTest(unittest.TestCase):
    def test_the_session_of_the_overview(self):
        self.assertEqual(repr(verdict(SESSION)), repr(("stop", 2, (0, 1, 0))))
        self.assertEqual(repr(verdict(SAFE)), repr(("safe", (1,))))

    def test_no_steps(self):
        for fields in range(1, 6):
            self.assertEqual(repr(verdict((fields, ()))), repr(("safe", tuple(range(fields)))))

    def test_one_step(self):
        self.assertEqual(verdict(TURN), ("stop", 1, (0, 1)))
        self.assertEqual(verdict((2, (("copy", 0, 1),))), ("safe", (0,)))
        self.assertEqual(verdict((1, (("write", 3, 0),))), ("safe", ()))

    def test_an_effect_that_is_nothing(self):
        self.assertEqual(verdict((2, (("exchange", 0, 1), ("exchange", 0, 1)))), ("stop", 1, (0, 1)))
        self.assertEqual(verdict((5, (("exchange", 3, 4), ("exchange", 4, 3)))), ("stop", 1, (0, 0, 0, 0, 1)))

    def test_a_stop_behind_the_last_step(self):
        twelve = (5, (("write", 0, 4),) * 11 + (("exchange", 0, 1),))
        self.assertEqual(verdict(twelve), ("stop", 12, (0, 1, 0, 0, 0)))

    def test_the_first_record_is_that_of_zeros_if_it_can_be(self):
        lost = (2, (("copy", 0, 1), ("write", 3, 0)))
        self.assertEqual(verdict(lost), ("stop", 2, (0, 0)))
        self.assertEqual(verdict((2, (("copy", 0, 1), ("write", 0, 0)))), ("stop", 2, (1, 0)))
        self.assertEqual(verdict((2, (("copy", 0, 1), ("write", 1, 0)))), ("stop", 2, (0, 0)))

    def test_twelve_steps_on_one_field_are_safe(self):
        for value in range(10):
            self.assertEqual(verdict((1, (("write", value, 0),) * 12)), ("safe", ()))

    def test_fields_that_are_changed_but_do_not_matter(self):
        self.assertEqual(verdict(CONSTANT), ("safe", ()))
        self.assertEqual(verdict((3, (("exchange", 0, 1), ("copy", 2, 0), ("copy", 2, 1)))), ("safe", (2,)))

    def test_a_slow_search(self):
        kinds = set()
        for script in small_scripts():
            found = verdict(script)
            self.assertEqual(repr(found), repr(slow.verdict(script)), script)
            kinds.add(found[0])
        self.assertEqual(kinds, {"safe", "stop"})

    def test_drawn_scripts(self):
        for script in cases.drawn_scripts(32):
            fields, steps = script
            found = verdict(script)
            self.assertEqual(found[0] == "safe", safe_by_the_words(script), script)
            if found[0] == "safe":
                self.assertEqual(repr(found), repr(("safe", matters(script))))
                continue
            differing = [(many, record) for many in range(len(steps) + 1)
                         for record in itertools.product((0, 1), repeat=fields)
                         if cases.reckoned_stopped(steps, (many,), record) != cases.reckoned(steps, record)]
            self.assertEqual(repr(found), repr(("stop", *differing[0])), script)

    def test_safe_means_for_all_stops(self):
        rng = random.Random(33)
        safe = [script for script in cases.drawn_scripts(34) if verdict(script)[0] == "safe"]
        self.assertGreater(len(safe), 20)
        for script in safe:
            for many in range(9):
                record = cases.drawn_record(rng, script[0])
                stops = cases.drawn_stops(rng, len(script[1]), many)
                self.assertEqual(stopped(script, stops, record), run(script, record), (script, stops))

    def test_errors(self):
        for thing in cases.wrong_scripts():
            self.assertIs(cases.told(verdict, (thing,)), ScriptError, thing)

    def test_the_same_call_again(self):
        for thing in [*cases.drawn_scripts(35), *cases.wrong_scripts()]:
            self.assertTrue(cases.repeats(verdict, (thing,)), thing)


class ShowsVerdictTest(unittest.TestCase):
    def test_what_verdict_returns(self):
        for script in [*small_scripts(), *cases.drawn_scripts(36)]:
            self.assertIs(shows_verdict(script, verdict(script)), True, script)

    def test_other_fields(self):
        rows = [row for many in range(4) for row in itertools.product(range(3), repeat=many)]
        for script in (SAFE, SESSION, (3, ()), (3, (("write", 0, 0),))):
            expected = slow.verdict(script)
            for row in rows:
                self.assertIs(shows_verdict(script, ("safe", row)), ("safe", row) == expected, (script, row))

    def test_the_fields_of_a_script_that_is_not_safe(self):
        for script in (SESSION, TURN, (2, (("copy", 0, 1), ("write", 3, 0)))):
            self.assertIs(shows_verdict(script, ("safe", matters(script))), False)
            self.assertIs(shows_verdict(script, ("safe", ())), False)

    def test_each_number_and_record(self):
        for script in [script for script in small_scripts() if script[0] < 3]:
            fields, steps = script
            for many in range(-1, len(steps) + 2):
                for record in slow.all_records(fields, (0, 1, 3)):
                    expected = 0 <= many <= len(steps) and (
                        cases.reckoned_stopped(steps, (many,), record) != cases.reckoned(steps, record))
                    self.assertIs(shows_verdict(script, ("stop", many, record)), expected, (script, many, record))

    def test_each_record_of_the_session(self):
        for many, record in itertools.product(range(4), slow.all_records(3)):
            expected = cases.reckoned_stopped(SESSION[1], (many,), record) != cases.reckoned(SESSION[1], record)
            self.assertIs(shows_verdict(SESSION, ("stop", many, record)), expected, (many, record))

    def test_one_part_otherwise(self):
        for script in (SESSION, SAFE, TURN, CONSTANT, (1, ()), (5, ())):
            fields, steps = script
            right = {repr(("stop", many, record)) for many in range(len(steps) + 1)
                     for record in slow.all_records(fields, (0, 1, 2, 3) if fields < 5 else (0, 1))
                     if cases.reckoned_stopped(steps, (many,), record) != cases.reckoned(steps, record)}
            found = verdict(script)
            if found[0] == "safe":
                right = {repr(found)}
            for thing in [found, *cases.otherwise(found)]:
                self.assertIs(shows_verdict(script, thing), repr(thing) in right, (script, thing))

    def test_bools_and_lists(self):
        for thing in (("safe", (True,)), ("safe", [1]), ["safe", (1,)], ("safe", 1), ("safe", ((1,),)), ("safe", None),
                      ("safe",), ("safe", (1,), ()), ("safe", (1,), 0), ("Safe", (1,)), (("safe",), (1,)), "safe"):
            self.assertIs(shows_verdict(SAFE, thing), False, thing)
        self.assertIs(shows_verdict((2, (("copy", 0, 1),)), ("safe", (False,))), False)
        for thing in (("stop", True, (0, 1)), ("stop", 1, (False, True)), ("stop", 1, [0, 1]), ["stop", 1, (0, 1)],
                      ("stop", 1, (0, True)), ("stop", 1), ("stop", 1, (0, 1), ()), ("stop", (1,), (0, 1)),
                      ("stop", 1, (0, 1, 0)), ("stop", 1, (0,)), ("stop", 1, (0, 10)), ("stop", 1, (-1, 0)),
                      ("stop", 2, (0, 1)), ("stop", 0, (0, 1)), ("stop", 10 ** 12, (0, 1)), ("stops", 1, (0, 1)),
                      ("stop", (0, 1), 1), ("safe", 1, (0, 1)), ("stop", 1, None), ("stop", None, (0, 1))):
            self.assertIs(shows_verdict(TURN, thing), False, thing)
        self.assertIs(shows_verdict(TURN, ("stop", 1, (9, 8))), True)

    def test_any_value(self):
        for script in (SESSION, SAFE):
            for thing in [*cases.wrong_scripts(), *cases.wrong_effects(), *cases.wrong_records(), SESSION, RECORD, ()]:
                self.assertIs(shows_verdict(script, thing), False, thing)

    def test_errors(self):
        for thing in cases.wrong_scripts():
            for shown in (("safe", (1,)), None, ("stop", 2, (0, 1, 0))):
                self.assertIs(cases.told(shows_verdict, (thing, shown)), ScriptError, thing)

    def test_the_same_call_again(self):
        for thing in [verdict(SESSION), verdict(SAFE), *cases.otherwise(verdict(SESSION)), *cases.ODD]:
            self.assertTrue(cases.repeats(shows_verdict, (SESSION, thing)), thing)
            self.assertTrue(cases.repeats(shows_verdict, (SAFE, thing)), thing)


class ResultsTest(unittest.TestCase):
    def test_the_session(self):
        one, two, zero = ("field", 1), ("field", 2), ("value", 0)
        self.assertEqual(results(SESSION), ((one, two, zero), (two, zero, zero), (zero, two, zero), (zero, zero, zero)))

    def test_some_scripts(self):
        self.assertEqual(results(TURN), ((("field", 0), ("field", 1)), (("field", 1), ("field", 0))))
        self.assertEqual(results((1, ())), ((("field", 0),),))
        self.assertEqual(results(CONSTANT), ((("value", 2), ("value", 1)),))

    def test_all_permutations(self):
        turn = (5, (("exchange", 0, 1), ("exchange", 1, 2), ("exchange", 2, 3), ("exchange", 3, 4)))
        parts = [("field", field) for field in range(5)]
        self.assertEqual(results(turn), tuple(itertools.permutations(parts)))

    def test_very_many(self):
        turn = (("exchange", 0, 1), ("exchange", 1, 2), ("exchange", 2, 3), ("exchange", 3, 4), ("copy", 0, 1))
        script = (5, turn + tuple([("write", value, 1) for value in range(7)]))
        parts = [("field", field) for field in range(5)] + [("value", value) for value in range(7)]
        expected = [(one, ("value", 6), *rest) for one, *rest in itertools.product(parts, repeat=4)]
        self.assertEqual(results(script), tuple(expected))

    def test_a_slow_search(self):
        for script in small_scripts():
            records = slow.telling_records(script[0])
            found = results(script)
            tables = [tuple([cases.reckoned_applied(parts, row) for row in records]) for parts in found]
            self.assertEqual(len(set(tables)), len(tables))
            self.assertEqual(set(tables), set(slow.ends(script, (), records)), script)

    def test_ascending_without_repetition(self):
        for script in cases.drawn_scripts(37):
            found = results(script)
            self.assertIs(type(found), tuple)
            self.assertEqual(repr(found), repr(tuple(sorted(set(found)))))
            self.assertTrue(all(is_effect(parts) and len(parts) == script[0] for parts in found))

    def test_stops_lead_to_one_of_them(self):
        rng = random.Random(38)
        for script in cases.drawn_scripts(39):
            found = results(script)
            self.assertIn(effect(script), found)
            self.assertEqual(len(found) == 1, verdict(script)[0] == "safe")
            stops = cases.drawn_stops(rng, len(script[1]), 8)
            records = cases.records_that_tell(script[0])
            ends = [stopped(script, stops, record) for record in records]
            made = [[cases.reckoned_applied(parts, record) for record in records] for parts in found]
            self.assertIn(ends, made)

    def test_errors(self):
        for thing in cases.wrong_scripts():
            self.assertIs(cases.told(results, (thing,)), ScriptError, thing)

    def test_the_same_call_again(self):
        for thing in [*cases.drawn_scripts(40), *cases.wrong_scripts()]:
            self.assertTrue(cases.repeats(results, (thing,)), thing)


class OutcomesTest(unittest.TestCase):
    def test_some_scripts(self):
        self.assertEqual(outcomes(SESSION, RECORD), ((0, 0, 0), (0, 6, 0), (5, 6, 0), (6, 0, 0)))
        self.assertEqual(outcomes(SAFE, RECORD), ((5, 5, 0),))
        self.assertEqual(outcomes(TURN, (2, 1)), ((1, 2), (2, 1)))
        self.assertEqual(outcomes((1, ()), (9,)), ((9,),))

    def test_several_results_may_give_one_record(self):
        self.assertEqual(len(results(TURN)), 2)
        self.assertEqual(outcomes(TURN, (7, 7)), ((7, 7),))
        self.assertEqual(outcomes(SESSION, (0, 0, 0)), ((0, 0, 0),))

    def test_a_slow_search(self):
        rng = random.Random(41)
        for script in small_scripts():
            for record in (cases.drawn_record(rng, script[0]), (0,) * script[0], tuple(range(script[0]))):
                expected = tuple(sorted([rows[0] for rows in slow.ends(script, (), [record])]))
                self.assertEqual(repr(outcomes(script, record)), repr(expected), (script, record))

    def test_drawn_scripts(self):
        rng = random.Random(42)
        for script in cases.drawn_scripts(43):
            record = cases.drawn_record(rng, script[0])
            found = outcomes(script, record)
            made = {cases.reckoned_applied(parts, record) for parts in results(script)}
            self.assertEqual(repr(found), repr(tuple(sorted(made))))
            for many in range(9):
                self.assertIn(stopped(script, cases.drawn_stops(rng, len(script[1]), many), record), found)

    def test_errors(self):
        for thing in cases.wrong_scripts():
            for record in (RECORD, None, (4, 5)):
                self.assertIs(cases.told(outcomes, (thing, record)), ScriptError, thing)
        for thing in cases.wrong_records():
            self.assertIs(cases.told(outcomes, (SESSION, thing)), RecordError, thing)

    def test_records_of_another_size(self):
        for fields, size in itertools.product(range(1, 6), range(8)):
            expected = repr(((7,) * size,)) if size == fields else RecordError
            self.assertEqual(cases.told(outcomes, ((fields, ()), (7,) * size)), expected)

    def test_the_same_call_again(self):
        for thing in [RECORD, *cases.wrong_records()]:
            self.assertTrue(cases.repeats(outcomes, (SESSION, thing)), thing)


if __name__ == "__main__":
    unittest.main()
