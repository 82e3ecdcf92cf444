"""The shortest safe script: clash, shortest."""

import unittest

from restartable.effects import effect, nothing
from restartable.errors import EffectError, NotSafe
from restartable.scripts import is_script
from restartable.shortest import clash, shortest
from restartable.verdicts import verdict
from tests import cases, slow

EXCHANGED = (("field", 1), ("field", 0))


def slow_clash(parts):
    """The least field that is both read and changed, found from lists of these."""
    read = sorted([number for word, number in parts if word == "field"])
    changed = [field for field, part in enumerate(parts) if part != ("field", field)]
    return next((field for field in read if field in changed), None)


def effects():
    return [*cases.all_effects(1), *cases.all_effects(2), *cases.all_effects(3, (0, 7)), *cases.drawn_effects(51)]


def caught(parts):
    try:
        shortest(parts)
    except NotSafe as error:
        return error
    return None


class ClashTest(unittest.TestCase):
    def test_some_effects(self):
        self.assertEqual(repr(clash(EXCHANGED)), "0")
        self.assertEqual(repr(clash(cases.SESSION_EFFECT)), "1")
        self.assertEqual(clash((("value", 0), ("field", 2), ("value", 1), ("field", 2))), 2)
        self.assertIsNone(clash((("field", 0), ("field", 0), ("value", 3))))
        self.assertIsNone(clash((("value", 1), ("value", 0))))

    def test_a_value_is_no_field(self):
        self.assertIsNone(clash((("value", 1), ("value", 1))))
        self.assertIsNone(clash((("value", 2), ("field", 1), ("value", 0))))

    def test_the_least_of_several(self):
        ring = (("field", 1), ("field", 2), ("field", 3), ("field", 4), ("field", 0))
        self.assertEqual(clash(ring), 0)
        self.assertEqual(clash((("field", 0), ("field", 4), ("value", 1), ("field", 3), ("field", 1))), 1)
        self.assertEqual(clash((("field", 0), ("value", 4), ("value", 1), ("value", 3), ("field", 3))), 3)

    def test_nothing(self):
        for fields in range(1, 6):
            self.assertIsNone(clash(nothing(fields)))

    def test_all_small_and_drawn_effects(self):
        found = [repr(clash(parts)) for parts in effects()]
        self.assertEqual(found, [repr(slow_clash(parts)) for parts in effects()])
        self.assertTrue({"None", "0", "1", "2"} <= set(found))

    def test_errors(self):
        for thing in cases.wrong_effects():
            self.assertIs(cases.told(clash, (thing,)), EffectError, thing)

    def test_the_same_call_again(self):
        for thing in [*cases.drawn_effects(52), *cases.wrong_effects()]:
            self.assertTrue(cases.repeats(clash, (thing,)), thing)


class ShortestTest(unittest.TestCase):
    def test_some_effects(self):
        parts = (("field", 1), ("field", 1), ("value", 0))
        self.assertEqual(repr(shortest(parts)), repr((3, (("copy", 1, 0), ("write", 0, 2)))))
        self.assertEqual(shortest((("value", 9),)), (1, (("write", 9, 0),)))
        self.assertEqual(shortest((("field", 0),) * 5), (5, tuple([("copy", 0, field) for field in range(1, 5)])))
        self.assertEqual(shortest((("value", 3),) * 5), (5, tuple([("write", 3, field) for field in range(5)])))

    def test_nothing_has_no_steps(self):
        for fields in range(1, 6):
            self.assertEqual(repr(shortest(nothing(fields))), repr((fields, ())))

    def test_a_value_that_is_a_number_of_a_field_is_written(self):
        self.assertEqual(shortest((("value", 1), ("field", 1))), (2, (("write", 1, 0),)))
        self.assertEqual(shortest((("value", 0), ("value", 1))), (2, (("write", 0, 0), ("write", 1, 1))))

    def test_effect_and_safety(self):
        for parts in [parts for parts in effects() if slow_clash(parts) is None]:
            found = shortest(parts)
            self.assertIs(is_script(found), True)
            self.assertEqual(effect(found), parts)
            self.assertEqual(verdict(found)[0], "safe")
            changed = [field for field, part in enumerate(parts) if part != ("field", field)]
            self.assertEqual([step[2] for step in found[1]], changed)
            words = ["write" if parts[field][0] == "value" else "copy" for field in changed]
            self.assertEqual([step[:2] for step in found[1]],
                             [(word, parts[field][1]) for word, field in zip(words, changed)])

    def test_no_script_has_fewer_steps(self):
        for fields, values in ((1, (0, 7)), (2, (0, 7)), (3, (0, 7)), (4, (7,))):
            records, least = slow.telling_records(fields), slow.distances(fields, values)
            for parts in cases.all_effects(fields, values):
                if slow_clash(parts) is None:
                    table = tuple([cases.reckoned_applied(parts, row) for row in records])
                    self.assertEqual(len(shortest(parts)[1]), least[table], parts)

    def test_no_safe_script_has_an_effect_with_a_clash(self):
        for script in [*slow.all_scripts(2, (0, 7), 3), *slow.all_scripts(3, (0,), 2)]:
            records = slow.telling_records(script[0])
            safe = set(slow.ends(script, (), records)) == {slow.whole(script, records)}
            if safe:
                self.assertIsNone(clash(effect(script)), script)
                self.assertLessEqual(len(shortest(effect(script))[1]), len(script[1]))

    def test_not_safe(self):
        seen = set()
        for parts in effects():
            error, expected = caught(parts), slow_clash(parts)
            self.assertEqual(error is None, expected is None, parts)
            if error is not None:
                self.assertIs(type(error), NotSafe)
                self.assertEqual(repr(error.field), repr(expected))
                self.assertEqual(error.field, clash(parts))
                seen.add(error.field)
        self.assertTrue({0, 1, 2} <= seen)
        self.assertEqual(caught(EXCHANGED).field, 0)

    def test_errors(self):
        for thing in cases.wrong_effects():
            self.assertIs(cases.told(shortest, (thing,)), EffectError, thing)
        for parts in (EXCHANGED, cases.SESSION_EFFECT):
            self.assertIs(cases.told(shortest, (parts,)), NotSafe)
            self.assertIs(cases.told(shortest, (list(parts),)), EffectError)

    def test_the_same_call_again(self):
        for thing in [*cases.drawn_effects(53), *cases.wrong_effects()]:
            self.assertTrue(cases.repeats(shortest, (thing,)), thing)


if __name__ == "__main__":
    unittest.main()
