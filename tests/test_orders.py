"""Orders: orders."""

import inspect
import itertools
import random
import unittest

from restartable.effects import effect
from restartable.errors import LimitError, ScriptError
from restartable.orders import orders
from restartable.shortest import shortest
from restartable.verdicts import verdict
from tests import cases, slow
from tests.cases import SESSION

WRITES = (5, tuple([("write", field, field) for field in range(5)]))


def listed(script):
    return list(orders(script))


def begun(script):
    """The first result alone."""
    return next(orders(script), None)


def small_scripts():
    rng = random.Random(81)
    made = slow.all_scripts(2, (0, 1), 2) + slow.all_scripts(1, (0, 1), 4)
    made += [cases.drawn_script(rng, fields, many) for fields in (1, 2, 3) for many in range(6) for _ in range(5)]
    made += [safe_script(rng, fields, many) for fields in (2, 3) for many in range(6) for _ in range(5)]
    return made + [safe_script(rng, 2, 6) for _ in range(4)] + [cases.drawn_script(rng, 3, 6) for _ in range(4)]


def safe_script(rng, fields, many):
    """A script that writes, and copies field 0, alone; equal steps are likely."""
    steps = [("copy", 0, rng.randrange(1, fields)) if rng.random() < 0.6
             else ("write", rng.randrange(2), rng.randrange(1, fields)) for _ in range(many)]
    return (fields, tuple(steps))


class OrdersTest(unittest.TestCase):
    def test_no_steps(self):
        for fields in range(1, 6):
            self.assertEqual(repr(listed((fields, ()))), "[()]")

    def test_one_step(self):
        self.assertEqual(listed((1, (("write", 3, 0),))), [(0,)])
        self.assertEqual(listed((2, (("copy", 0, 1),))), [(0,)])
        self.assertEqual(listed((2, (("exchange", 0, 1),))), [])

    def test_the_session_has_none(self):
        self.assertEqual(listed(SESSION), [])

    def test_equal_steps_have_different_numbers(self):
        self.assertEqual(listed((2, (("copy", 0, 1),) * 2)), [(0, 1), (1, 0)])
        for many in range(7):
            expected = list(itertools.permutations(range(many)))
            self.assertEqual(listed((1, (("write", 3, 0),) * many)), expected)

    def test_all_orders(self):
        self.assertEqual(listed(WRITES), list(itertools.permutations(range(5))))

    def test_the_last_write_stays_last(self):
        found = listed((1, tuple([("write", value, 0) for value in range(6)])))
        self.assertEqual(found, [row for row in itertools.permutations(range(6)) if row[-1] == 5])

    def test_some_orders(self):
        script = (2, (("write", 1, 1), ("copy", 1, 0), ("write", 1, 0)))
        self.assertEqual(listed(script), [(0, 1, 2), (0, 2, 1), (1, 0, 2), (1, 2, 0), (2, 0, 1)])
        self.assertEqual(listed((2, (("write", 5, 0), ("copy", 1, 0)))), [(0, 1)])
        script = (3, (("exchange", 0, 1), ("copy", 2, 0), ("copy", 2, 1)))
        self.assertEqual(listed(script), [(0, 1, 2), (0, 2, 1), (1, 2, 0), (2, 1, 0)])

    def test_the_same_effect_is_not_enough(self):
        self.assertEqual(listed((2, (("exchange", 0, 1), ("exchange", 1, 0)))), [])

    def test_a_script_that_is_not_safe_may_have_a_safe_order(self):
        script = (2, (("exchange", 0, 1), ("copy", 0, 1), ("copy", 1, 0)))
        self.assertEqual(verdict(script)[0], "stop")
        self.assertEqual(listed(script), [(2, 0, 1), (2, 1, 0)])

    def test_a_slow_search(self):
        sizes = set()
        for script in small_scripts():
            found = listed(script)
            self.assertEqual(repr(found), repr(slow.orders(script)), script)
            sizes.add((len(script[1]), len(found) > 0))
        self.assertEqual(sizes, set(itertools.product(range(7), (True, False))) - {(0, False)})

    def test_five_fields(self):
        for script in [script for script in cases.drawn_scripts(82) if len(script[1]) < 7]:
            fields, steps = script
            expected = []
            for row in itertools.permutations(range(len(steps))):
                other = (fields, tuple([steps[number] for number in row]))
                if effect(other) == effect(script) and verdict(other)[0] == "safe":
                    expected.append(row)
            self.assertEqual(repr(listed(script)), repr(expected), script)

    def test_shortest_scripts_may_be_done_in_any_order(self):
        for parts in cases.drawn_effects(83):
            found = cases.told(shortest, (parts,))
            if isinstance(found, str):
                steps = shortest(parts)[1]
                self.assertEqual(listed(shortest(parts)), list(itertools.permutations(range(len(steps)))))

    def test_a_generator(self):
        self.assertTrue(inspect.isgenerator(orders(WRITES)))
        self.assertEqual(begun(WRITES), (0, 1, 2, 3, 4))
        rows = orders((1, ()))
        self.assertEqual(next(rows), ())
        with self.assertRaises(StopIteration):
            next(rows)

    def test_two_side_by_side(self):
        one, other = orders(WRITES), orders(WRITES)
        third = orders((1, (("write", 3, 0),) * 3))
        found = [(next(one), next(other), next(third)) for _ in range(6)]
        every = list(itertools.permutations(range(5)))
        few = list(itertools.permutations(range(3)))
        self.assertEqual(found, list(zip(every[:6], every[:6], few)))
        self.assertEqual(list(one), every[6:])
        self.assertEqual(list(third), [])
        self.assertEqual(list(other), every[6:])

    def test_more_than_six_steps(self):
        for many in range(7, 13):
            for script in ((1, (("write", 3, 0),) * many), (2, (("exchange", 0, 1),) * many)):
                for call in (listed, begun):
                    with self.assertRaises(LimitError) as caught:
                        call(script)
                    self.assertIs(type(caught.exception), LimitError)
                    self.assertEqual((caught.exception.amount, caught.exception.limit), (many, 6))
        self.assertEqual(len(listed((1, (("write", 3, 0),) * 6))), 720)

    def test_errors(self):
        for thing in cases.wrong_scripts():
            self.assertIs(cases.told(listed, (thing,)), ScriptError, thing)
            self.assertIs(cases.told(begun, (thing,)), ScriptError, thing)

    def test_the_first_error_is_raised(self):
        many = (("write", 3, 0),) * 7
        for thing in ((0, many), (6, many), [1, many], (1, list(many)), (True, many), (1, many + (("write", 10, 0),)),
                      (1, many * 2)):
            self.assertIs(cases.told(listed, (thing,)), ScriptError, thing)
        self.assertIs(cases.told(listed, ((1, many),)), LimitError)

    def test_the_same_call_again(self):
        for thing in [*small_scripts(), *cases.drawn_scripts(84), *cases.wrong_scripts()]:
            self.assertTrue(cases.repeats(listed, (thing,)), thing)


if __name__ == "__main__":
    unittest.main()
