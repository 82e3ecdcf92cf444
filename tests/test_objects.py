"""Scripts as objects: Script."""

import itertools
import random
import unittest

from restartable.effects import effect, matters
from restartable.errors import (EffectError, FieldsError, LimitError, MatchError, NotSafe, NumberError, PlaceError,
                                RecordError, ScriptError, StepError)
from restartable.objects import Script
from restartable.scripts import is_script, run
from restartable.shortest import clash, shortest
from restartable.verdicts import verdict
from tests import cases
from tests.cases import SESSION

RECORD = (4, 5, 6)
WRITE = ("write", 3, 0)


def made(script):
    return Script(script[0], *script[1])


def written(many, fields=1):
    """A script of so many equal steps."""
    return Script(fields, *[WRITE] * many)


def facts(script):
    """All that a Script tells of itself."""
    return repr((script, script.plain, script.fields, script.steps, script.effect, script.matters, script.safe,
                 len(script), script.text()))


def added(one, other):
    return one + other


def multiplied(one, many):
    return one * many


def at_place(script, place):
    return script[place]


def called(script, record):
    return script(record)


class MadeTest(unittest.TestCase):
    def test_the_session(self):
        script = Script(3, ("copy", 1, 0), ("write", 0, 1), ("exchange", 1, 2))
        self.assertEqual(script.fields, 3)
        self.assertEqual(script.steps, SESSION[1])
        self.assertEqual(script.plain, SESSION)
        self.assertEqual(script.effect, cases.SESSION_EFFECT)
        self.assertEqual(script.matters, (1, 2))
        self.assertIs(script.safe, False)
        self.assertEqual(script(RECORD), (5, 6, 0))
        self.assertEqual(len(script), 3)
        self.assertIs(Script(3, ("copy", 1, 0), ("write", 0, 2)).safe, True)

    def test_drawn_scripts(self):
        rng = random.Random(91)
        kinds = set()
        for plain in cases.drawn_scripts(91):
            script = made(plain)
            self.assertEqual(repr(script.plain), repr(plain))
            self.assertIs(is_script(script.plain), True)
            self.assertEqual(repr((script.fields, script.steps)), repr(plain))
            self.assertEqual(repr(script.effect), repr(effect(plain)))
            self.assertEqual(repr(script.matters), repr(matters(plain)))
            self.assertIs(script.safe, verdict(plain)[0] == "safe")
            self.assertEqual(len(script), len(plain[1]))
            record = cases.drawn_record(rng, plain[0])
            self.assertEqual(repr(script(record)), repr(cases.reckoned(plain[1], record)))
            self.assertEqual(script(record), run(plain, record))
            kinds.add((len(script), script.safe))
        self.assertTrue({(0, True), (12, True), (12, False)} <= kinds)

    def test_no_steps(self):
        for fields in range(1, 6):
            script = Script(fields)
            self.assertEqual(repr(script.plain), repr((fields, ())))
            self.assertEqual(script.matters, tuple(range(fields)))
            self.assertIs(script.safe, True)
            self.assertEqual(len(script), 0)
            self.assertEqual(script((7,) * fields), (7,) * fields)

    def test_fields(self):
        for thing in (0, 6, 7, -1, 10 ** 12, *cases.ODD_NUMBERS):
            for steps in ((), (WRITE,), (None,), (WRITE,) * 13):
                self.assertIs(cases.told(Script, (thing, *steps)), FieldsError, thing)

    def test_steps(self):
        for thing in cases.wrong_steps():
            self.assertIs(cases.told(Script, (3, thing)), StepError, thing)
            self.assertIs(cases.told(Script, (3, *SESSION[1], thing)), StepError, thing)
            self.assertIs(cases.told(Script, (3, thing, *SESSION[1] * 5)), StepError, thing)
        for thing in (SESSION[1], list(SESSION[1]), SESSION):
            self.assertIs(cases.told(Script, (3, thing)), StepError, thing)
        for place in range(12):
            steps = [WRITE] * 12
            steps[place] = ("write", 3, 1)
            self.assertIs(cases.told(Script, (1, *steps)), StepError)

    def test_steps_on_other_fields(self):
        for fields in range(1, 6):
            for step in (("write", 0, fields), ("copy", 0, fields), ("exchange", fields, 0)):
                self.assertIs(cases.told(Script, (fields, step)), StepError)
            self.assertEqual(Script(fields, ("write", 9, fields - 1)).steps, (("write", 9, fields - 1),))

    def test_too_many_steps(self):
        for many in (13, 14, 100, 1000):
            with self.assertRaises(LimitError) as caught:
                written(many)
            self.assertEqual((caught.exception.amount, caught.exception.limit), (many, 12))
            self.assertIs(type(caught.exception), LimitError)
        self.assertEqual(len(written(12)), 12)

    def test_the_arguments_stay(self):
        for plain in cases.drawn_scripts(92):
            self.assertTrue(cases.repeats(Script, (plain[0], *plain[1])))
        steps = list(SESSION[1])
        script = Script(3, *steps)
        steps.clear()
        self.assertEqual(script.plain, SESSION)


class CalledTest(unittest.TestCase):
    def test_errors(self):
        for thing in cases.wrong_records():
            self.assertIs(cases.told(made(SESSION), (thing,)), RecordError, thing)

    def test_records_of_another_size(self):
        for fields, size in itertools.product(range(1, 6), range(8)):
            expected = repr((7,) * size) if size == fields else RecordError
            self.assertEqual(cases.told(Script(fields), ((7,) * size,)), expected)

    def test_nothing_changes(self):
        script = made(SESSION)
        before = facts(script)
        for thing in [RECORD, *cases.wrong_records()]:
            self.assertTrue(cases.repeats(called, (script, thing)), thing)
        self.assertEqual(facts(script), before)


class SumTest(unittest.TestCase):
    def test_first_one_and_then_other(self):
        one, other = Script(2, ("copy", 0, 1)), Script(2, ("write", 3, 0), ("exchange", 0, 1))
        self.assertEqual((one + other).plain, (2, (("copy", 0, 1), ("write", 3, 0), ("exchange", 0, 1))))
        self.assertEqual((other + one).plain, (2, (("write", 3, 0), ("exchange", 0, 1), ("copy", 0, 1))))
        self.assertIs(type(one + other), Script)

    def test_no_steps(self):
        none, some = Script(3), made(SESSION)
        self.assertEqual([none + some, some + none, none + none], [some, some, none])

    def test_drawn_sums(self):
        for one, other in itertools.product(cases.drawn_scripts(93)[::7], repeat=2):
            before = facts(made(one)), facts(made(other))
            left, right = made(one), made(other)
            many = len(one[1]) + len(other[1])
            if one[0] != other[0]:
                expected = MatchError
            elif many > 12:
                expected = LimitError
            else:
                expected = f"Script({one[0]} fields, {many} steps)"
                self.assertEqual((left + right).plain, (one[0], one[1] + other[1]))
            self.assertEqual(cases.told(added, (left, right)), expected)
            self.assertEqual((facts(left), facts(right)), before)

    def test_limits(self):
        for one, other in itertools.product(range(13), repeat=2):
            if one + other < 13:
                self.assertEqual(written(one) + written(other), written(one + other))
                continue
            with self.assertRaises(LimitError) as caught:
                written(one) + written(other)
            self.assertEqual((caught.exception.amount, caught.exception.limit), (one + other, 12))

    def test_other_fields(self):
        for one, other in itertools.permutations(range(1, 6), 2):
            for many in (0, 1, 12):
                self.assertIs(cases.told(added, (written(many, one), written(many, other))), MatchError)

    def test_errors(self):
        for thing in [SESSION, SESSION[1], (3, ()), 0, 1, *cases.ODD_BUT_SCRIPTS]:
            for script in (made(SESSION), Script(1), written(12)):
                self.assertIs(cases.told(added, (script, thing)), ScriptError, thing)

    def test_a_sum_in_place_is_another_object(self):
        script = one = made(SESSION)
        script += one
        self.assertEqual((len(script), len(one)), (6, 3))

    def test_the_same_call_again(self):
        for thing in [*cases.ODD, SESSION]:
            self.assertTrue(cases.repeats(added, (made(SESSION), thing)), thing)


class ProductTest(unittest.TestCase):
    def test_all_numbers(self):
        for many, times in itertools.product(range(13), repeat=2):
            script = written(many)
            if many * times < 13:
                self.assertEqual(script * times, written(many * times))
                self.assertIs(type(script * times), Script)
            else:
                with self.assertRaises(LimitError) as caught:
                    script * times
                self.assertEqual((caught.exception.amount, caught.exception.limit), (many * times, 12))
            self.assertEqual(script, written(many))

    def test_edges(self):
        for fields in range(1, 6):
            self.assertEqual((Script(fields) * 12).plain, (fields, ()))
            self.assertEqual((written(12, fields) * 0).plain, (fields, ()))
            self.assertEqual((written(1, fields) * 12).plain, (fields, (WRITE,) * 12))
            self.assertEqual((written(12, fields) * 1).plain, (fields, (WRITE,) * 12))

    def test_the_order_stays(self):
        self.assertEqual((made(SESSION) * 3).plain, (3, SESSION[1] * 3))
        self.assertEqual((made(SESSION) * 4).steps, SESSION[1] * 4)

    def test_errors(self):
        for thing in [-1, 13, 14, -12, 10 ** 12, 1000, *cases.ODD_NUMBERS, *cases.ODD]:
            for script in (made(SESSION), Script(1), written(12)):
                self.assertIs(cases.told(multiplied, (script, thing)), NumberError, thing)

    def test_nothing_changes(self):
        script = made(SESSION)
        before = facts(script)
        for thing in [0, 4, 5, 13, *cases.ODD]:
            self.assertTrue(cases.repeats(multiplied, (script, thing)), thing)
        self.assertEqual(facts(script), before)


class PlaceTest(unittest.TestCase):
    def test_each_place(self):
        for plain in cases.drawn_scripts(94):
            script = made(plain)
            found = [script[place] for place in range(len(script))]
            self.assertEqual(repr(tuple(found)), repr(plain[1]))
            for place in (-1, -len(script), len(script), len(script) + 1, -13, 12, 13, 10 ** 12):
                if not 0 <= place < len(script):
                    self.assertIs(cases.told(at_place, (script, place)), PlaceError, place)

    def test_errors(self):
        for thing in [*cases.ODD_NUMBERS, *cases.ODD, slice(0, 1), slice(None)]:
            for script in (made(SESSION), Script(1), written(12)):
                self.assertIs(cases.told(at_place, (script, thing)), PlaceError, thing)

    def test_the_same_call_again(self):
        for thing in [0, 2, 3, -1, *cases.ODD]:
            self.assertTrue(cases.repeats(at_place, (made(SESSION), thing)), thing)


class InTest(unittest.TestCase):
    def test_steps(self):
        for plain in cases.drawn_scripts(95):
            script = made(plain)
            for step in [*plain[1], *SESSION[1], WRITE]:
                self.assertIs(step in script, step in plain[1])
                self.assertIs(step not in script, step not in plain[1])

    def test_every_small_step(self):
        script = Script(2, ("copy", 0, 1), ("write", 1, 0), ("write", 0, 0), ("exchange", 1, 0))
        for step in itertools.product(("copy", "write", "exchange", "move"), range(-1, 4), range(-1, 4)):
            self.assertIs(step in script, step in script.steps, step)

    def test_bools_and_lists(self):
        script = Script(2, ("copy", 0, 1), ("write", 1, 0), ("write", 0, 0), ("exchange", 1, 0))
        for step in script.steps:
            word, one, other = step
            self.assertIs(step in script, True)
            for thing in ([word, one, other], (word, bool(one), other), (word, one, bool(other)), (step,), [step],
                          (word, bool(one), bool(other)), (word, one), (word, one, other, 0), (word, (one, other)),
                          (word, str(one), other), ([word], one, other), (word, other), {word: (one, other)}):
                self.assertIs(thing in script, False, thing)

    def test_any_value(self):
        for thing in [*cases.ODD, *cases.wrong_steps(), SESSION, SESSION[1], 0, 1, 3]:
            for script in (made(SESSION), Script(1), written(12)):
                self.assertIs(thing in script, False, thing)


class EqualTest(unittest.TestCase):
    def test_the_same(self):
        for plain in cases.drawn_scripts(96):
            self.assertIs(made(plain) == made(plain), True)
            self.assertIs(made(plain) != made(plain), False)

    def test_others(self):
        one = made(SESSION)
        steps = SESSION[1]
        others = [Script(4, *steps), Script(5, *steps), Script(3), Script(3, *steps[:2]), Script(3, *steps, steps[0]),
                  Script(3, ("copy", 1, 0), ("write", 1, 1), ("exchange", 1, 2)),
                  Script(3, ("copy", 1, 0), ("write", 0, 1), ("exchange", 2, 1))]
        others += [Script(3, *row) for row in itertools.permutations(steps) if row != steps]
        for other in others:
            self.assertIs(one == other, False, other.plain)
            self.assertIs(other == one, False, other.plain)
            self.assertIs(one != other, True, other.plain)
        for one, other in itertools.permutations(range(1, 6), 2):
            self.assertIs(Script(one) == Script(other), False)

    def test_equal_just_if_the_plain_ones_are(self):
        scripts = cases.drawn_scripts(97)[::3]
        for one, other in itertools.product(scripts, repeat=2):
            self.assertIs(made(one) == made(other), one == other)

    def test_nothing_else(self):
        script = made(SESSION)
        for thing in [SESSION, SESSION[1], list(SESSION), 3, 0, script.text(), repr(script), *cases.ODD_BUT_SCRIPTS,
                      cases.SESSION_EFFECT, script.effect]:
            for one in (script, Script(1), Script(3)):
                self.assertIs(one == thing, False, thing)
                self.assertIs(thing == one, False, thing)
                self.assertIs(one != thing, True, thing)


class ReprTest(unittest.TestCase):
    def test_all_numbers(self):
        self.assertEqual(repr(Script(3, ("copy", 1, 0), ("write", 0, 2))), "Script(3 fields, 2 steps)")
        for fields, many in itertools.product(range(1, 6), range(13)):
            self.assertEqual(repr(written(many, fields)), f"Script({fields} fields, {many} steps)")


class OfTest(unittest.TestCase):
    def test_effects(self):
        counts = {None: 0}
        for parts in [*cases.all_effects(1), *cases.all_effects(2), *cases.drawn_effects(98)]:
            field = clash(parts)
            counts[field] = counts.get(field, 0) + 1
            if field is None:
                script = Script.of(parts)
                self.assertIs(type(script), Script)
                self.assertEqual(repr(script.plain), repr(shortest(parts)))
                self.assertEqual(script.effect, parts)
                self.assertIs(script.safe, True)
                continue
            with self.assertRaises(NotSafe) as caught:
                Script.of(parts)
            self.assertEqual(repr(caught.exception.field), repr(field))
            self.assertIs(type(caught.exception), NotSafe)
        self.assertTrue({None, 0, 1, 2, 3} <= set(counts))

    def test_off_an_object(self):
        self.assertEqual(made(SESSION).of((("value", 9),)), Script(1, ("write", 9, 0)))

    def test_errors(self):
        for thing in cases.wrong_effects():
            self.assertIs(cases.told(Script.of, (thing,)), EffectError, thing)

    def test_the_same_call_again(self):
        for thing in [*cases.drawn_effects(99), *cases.wrong_effects()]:
            self.assertTrue(cases.repeats(Script.of, (thing,)), thing)


class UnchangingTest(unittest.TestCase):
    def test_properties_are_not_assigned(self):
        script = made(SESSION)
        for name in ("fields", "steps", "plain", "effect", "matters", "safe"):
            with self.assertRaises(AttributeError):
                setattr(script, name, 1)
        self.assertEqual(script.plain, SESSION)

    def test_no_use_changes_a_script(self):
        for plain in cases.drawn_scripts(100):
            script = made(plain)
            before = facts(script)
            for call in (lambda: script + script, lambda: script * 2, lambda: script[0], lambda: script[20],
                         lambda: script(None), lambda: script((0,) * plain[0]), lambda: script + 1, lambda: script * 13,
                         lambda: Script.read(script.text()), lambda: script == script, lambda: None in script):
                cases.told(call, ())
            self.assertEqual(facts(script), before)
            self.assertEqual(script.plain, plain)


if __name__ == "__main__":
    unittest.main()
