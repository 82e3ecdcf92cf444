"""Effects: is_effect, effect, effect_behind, applied, both, nothing, matters."""

import itertools
import random
import unittest

from restartable.effects import applied, both, effect, effect_behind, is_effect, is_unchanged, matters, nothing
from restartable.errors import EffectError, FieldsError, MatchError, NumberError, RecordError, ScriptError
from restartable.scripts import behind, run
from tests import cases
from tests.cases import SESSION, SESSION_EFFECT

RECORD = (4, 5, 6)


class IsEffectTest(unittest.TestCase):
    def test_effects(self):
        for parts in [*cases.all_effects(1), *cases.all_effects(2), *cases.drawn_effects(1)]:
            self.assertIs(is_effect(parts), True, parts)

    def test_edges(self):
        for fields in range(1, 6):
            for part in (("field", 0), ("field", fields - 1), ("value", 0), ("value", 9)):
                self.assertIs(is_effect((part,) * fields), True)
            for part in (("field", fields), ("field", -1), ("value", 10), ("value", -1)):
                self.assertIs(is_effect((part,) * fields), False)

    def test_wrong_effects(self):
        for thing in cases.wrong_effects():
            self.assertIs(is_effect(thing), False, thing)

    def test_each_part_is_checked(self):
        for fields in range(1, 6):
            for place in range(fields):
                parts = [("value", 1)] * fields
                parts[place] = ("value", True)
                self.assertIs(is_effect(tuple(parts)), False)

    def test_kinds_must_agree(self):
        for parts in cases.drawn_effects(2):
            self.assertIs(is_effect(list(parts)), False)
            self.assertIs(is_effect((list(parts[0]), *parts[1:])), False)
        self.assertIs(is_effect((("field", False),)), False)

    def test_scripts_and_records_are_no_effects(self):
        for thing in (SESSION, SESSION[1], RECORD, (2,), ()):
            self.assertIs(is_effect(thing), False)

    def test_arguments_stay(self):
        for thing in [SESSION_EFFECT, *cases.wrong_effects()]:
            self.assertTrue(cases.repeats(is_effect, (thing,)), thing)


class EffectTest(unittest.TestCase):
    def test_the_session_script(self):
        self.assertEqual(effect(SESSION), SESSION_EFFECT)

    def test_each_kind_of_step(self):
        self.assertEqual(effect((2, (("copy", 0, 1),))), (("field", 0), ("field", 0)))
        self.assertEqual(effect((2, (("write", 1, 0),))), (("value", 1), ("field", 1)))
        self.assertEqual(effect((2, (("exchange", 0, 1),))), (("field", 1), ("field", 0)))

    def test_no_steps(self):
        for fields in range(1, 6):
            self.assertEqual(effect((fields, ())), tuple([("field", field) for field in range(fields)]))

    def test_drawn_scripts(self):
        for script in cases.drawn_scripts(11):
            found = effect(script)
            self.assertIs(is_effect(found), True)
            self.assertEqual(len(found), script[0])
            for record in cases.records_that_tell(script[0]):
                self.assertEqual(cases.reckoned_applied(found, record), cases.reckoned(script[1], record))

    def test_there_is_just_one(self):
        for script in [script for script in cases.drawn_scripts(12) if script[0] < 3]:
            records = list(itertools.product((0, 1, 8, 9), repeat=script[0]))
            wanted = [cases.reckoned(script[1], record) for record in records]
            fitting = [parts for parts in cases.all_effects(script[0])
                       if [cases.reckoned_applied(parts, record) for record in records] == wanted]
            self.assertEqual(repr([effect(script)]), repr(fitting))

    def test_errors(self):
        for thing in cases.wrong_scripts():
            self.assertIs(cases.told(effect, (thing,)), ScriptError, thing)

    def test_the_same_call_again(self):
        for thing in [*cases.drawn_scripts(13), *cases.wrong_scripts()]:
            self.assertTrue(cases.repeats(effect, (thing,)), thing)


class EffectBehindTest(unittest.TestCase):
    def test_each_number_of_steps_of_the_session(self):
        one, two, zero = ("field", 1), ("field", 2), ("value", 0)
        found = [effect_behind(SESSION, many) for many in range(4)]
        self.assertEqual(found, [(("field", 0), one, two), (one, one, two), (one, zero, two), (one, two, zero)])

    def test_drawn_scripts_at_each_number(self):
        for script in cases.drawn_scripts(14):
            fields, steps = script
            for many in range(len(steps) + 1):
                found = effect_behind(script, many)
                self.assertEqual(repr(found), repr(effect((fields, steps[:many]))))
                for record in cases.records_that_tell(fields):
                    self.assertEqual(applied(found, record), behind(script, many, record))

    def test_errors(self):
        for thing in cases.wrong_scripts():
            self.assertIs(cases.told(effect_behind, (thing, 0)), ScriptError, thing)
            self.assertIs(cases.told(effect_behind, (thing, None)), ScriptError, thing)
        for thing in cases.wrong_numbers(3):
            self.assertIs(cases.told(effect_behind, (SESSION, thing)), NumberError, thing)

    def test_the_same_call_again(self):
        for thing in [0, 2, 3, *cases.wrong_numbers(3)]:
            self.assertTrue(cases.repeats(effect_behind, (SESSION, thing)), thing)


class AppliedTest(unittest.TestCase):
    def test_fields_and_values(self):
        self.assertEqual(applied(SESSION_EFFECT, RECORD), (5, 6, 0))
        self.assertEqual(applied((("value", 0),), (7,)), (0,))
        parts = (("field", 4), ("value", 9), ("field", 4), ("field", 0), ("value", 1))
        self.assertEqual(applied(parts, (2, 3, 4, 5, 6)), (6, 9, 6, 2, 1))

    def test_drawn_effects(self):
        rng = random.Random(15)
        for parts in cases.drawn_effects(15):
            record = cases.drawn_record(rng, len(parts))
            self.assertEqual(repr(applied(parts, record)), repr(cases.reckoned_applied(parts, record)))

    def test_it_agrees_with_run(self):
        rng = random.Random(16)
        for script in cases.drawn_scripts(16):
            record = cases.drawn_record(rng, script[0])
            self.assertEqual(applied(effect(script), record), run(script, record))

    def test_errors(self):
        for thing in cases.wrong_effects():
            self.assertIs(cases.told(applied, (thing, RECORD)), EffectError, thing)
            self.assertIs(cases.told(applied, (thing, None)), EffectError, thing)
        for thing in cases.wrong_records():
            self.assertIs(cases.told(applied, (SESSION_EFFECT, thing)), RecordError, thing)

    def test_records_of_another_size(self):
        for fields, size in itertools.product(range(1, 6), range(8)):
            expected = repr((0,) * fields) if size == fields else RecordError
            self.assertEqual(cases.told(applied, ((("value", 0),) * fields, (7,) * size)), expected)

    def test_the_same_call_again(self):
        for thing in [RECORD, *cases.wrong_records()]:
            self.assertTrue(cases.repeats(applied, (SESSION_EFFECT, thing)), thing)


class BothTest(unittest.TestCase):
    def test_first_one_and_then_other(self):
        copied, written = (("field", 1), ("field", 1)), (("field", 0), ("value", 3))
        self.assertEqual(both(copied, written), (("field", 1), ("value", 3)))
        self.assertEqual(both(written, copied), (("value", 3), ("value", 3)))

    def test_a_value_stays_whatever_was_before(self):
        self.assertEqual(both((("value", 1), ("field", 0)), (("value", 0), ("value", 1))), (("value", 0), ("value", 1)))

    def test_all_pairs_on_one_field(self):
        for one, other in itertools.product(cases.all_effects(1), repeat=2):
            self.assertEqual(both(one, other), one if other == (("field", 0),) else other)

    def test_drawn_pairs(self):
        for one, other in zip(cases.drawn_effects(17), cases.drawn_effects(18)):
            found = both(one, other)
            self.assertIs(is_effect(found), True)
            for record in cases.records_that_tell(len(one)):
                expected = cases.reckoned_applied(other, cases.reckoned_applied(one, record))
                self.assertEqual(repr(applied(found, record)), repr(expected))

    def test_steps_of_two_scripts(self):
        for one, other in zip(cases.drawn_scripts(19), cases.drawn_scripts(20)):
            fields, steps = one
            joined = (fields, (steps + other[1])[:12])
            rest = (fields, joined[1][len(steps):])
            self.assertEqual(both(effect(one), effect(rest)), effect(joined))

    def test_errors(self):
        for thing in cases.wrong_effects():
            for right in (SESSION_EFFECT, (("field", 0),)):
                self.assertIs(cases.told(both, (thing, right)), EffectError, thing)
                self.assertIs(cases.told(both, (right, thing)), EffectError, thing)
            self.assertIs(cases.told(both, (thing, thing)), EffectError, thing)

    def test_effects_of_other_sizes(self):
        for one, other in itertools.product(range(1, 6), repeat=2):
            expected = repr((("value", 2),) * other) if one == other else MatchError
            found = cases.told(both, ((("value", 1),) * one, (("value", 2),) * other))
            self.assertEqual(found, expected)

    def test_the_same_call_again(self):
        for thing in [SESSION_EFFECT, (("field", 0),), *cases.wrong_effects()]:
            self.assertTrue(cases.repeats(both, (SESSION_EFFECT, thing)), thing)
            self.assertTrue(cases.repeats(both, (thing, SESSION_EFFECT)), thing)


class NothingTest(unittest.TestCase):
    def test_each_number_of_fields(self):
        rng = random.Random(21)
        self.assertEqual(nothing(1), (("field", 0),))
        self.assertEqual(nothing(5), (("field", 0), ("field", 1), ("field", 2), ("field", 3), ("field", 4)))
        for fields in range(1, 6):
            record = cases.drawn_record(rng, fields)
            self.assertEqual(applied(nothing(fields), record), record)
            self.assertIs(is_effect(nothing(fields)), True)

    def test_it_changes_no_effect(self):
        for parts in cases.drawn_effects(22):
            self.assertEqual(both(nothing(len(parts)), parts), parts)
            self.assertEqual(both(parts, nothing(len(parts))), parts)

    def test_errors(self):
        for thing in (0, 6, 7, -1, -5, 10 ** 12, *cases.ODD_NUMBERS):
            self.assertIs(cases.told(nothing, (thing,)), FieldsError, thing)

    def test_the_same_call_again(self):
        for thing in (1, 5, 0, 6, *cases.ODD_NUMBERS):
            self.assertTrue(cases.repeats(nothing, (thing,)), thing)


class MattersTest(unittest.TestCase):
    def test_some_scripts(self):
        self.assertEqual(matters(SESSION), (1, 2))
        self.assertEqual(matters((3, (("copy", 1, 0), ("write", 0, 2)))), (1,))
        self.assertEqual(matters((1, (("write", 0, 0),))), ())
        self.assertEqual(matters((5, ())), (0, 1, 2, 3, 4))
        self.assertEqual(matters((2, (("exchange", 0, 1),))), (0, 1))

    def test_a_value_is_no_field(self):
        self.assertEqual(matters((2, (("write", 1, 0), ("write", 0, 1)))), ())

    def test_a_field_that_is_lost_again_does_not_matter(self):
        self.assertEqual(matters((2, (("copy", 1, 0), ("write", 5, 0), ("write", 5, 1)))), ())

    def test_drawn_scripts(self):
        for script in cases.drawn_scripts(23):
            fields, steps = script
            wanted = []
            for field in range(fields):
                one, other = [0] * fields, [0] * fields
                other[field] = 1
                if cases.reckoned(steps, one) != cases.reckoned(steps, other):
                    wanted.append(field)
            self.assertEqual(repr(matters(script)), repr(tuple(wanted)), script)

    def test_errors(self):
        for thing in cases.wrong_scripts():
            self.assertIs(cases.told(matters, (thing,)), ScriptError, thing)

    def test_the_same_call_again(self):
        for thing in [*cases.drawn_scripts(24), *cases.wrong_scripts()]:
            self.assertTrue(cases.repeats(matters, (thing,)), thing)


class UnchangedTest(unittest.TestCase):
    def test_only_the_field_itself_is_unchanged(self):
        parts = (("field", 0), ("value", 1), ("field", 0), ("field", 3))
        found = [is_unchanged(parts, field) for field in range(4)]
        self.assertEqual(repr(found), repr([True, False, False, True]))

    def test_nothing_leaves_all_unchanged(self):
        for fields in range(1, 6):
            self.assertEqual([is_unchanged(nothing(fields), field) for field in range(fields)], [True] * fields)


if __name__ == "__main__":
    unittest.main()
