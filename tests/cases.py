"""What the tests share: drawn scripts and effects, wrong values, and a second way to reckon runs."""

import copy
import itertools
import random

from restartable.errors import LimitError, NotSafe, ScriptError
from restartable.objects import Script
from restartable.runs import Counted, CountedMarked, Marked, Run

SESSION = (3, (("copy", 1, 0), ("write", 0, 1), ("exchange", 1, 2)))
SESSION_EFFECT = (("field", 1), ("field", 2), ("value", 0))


def deep(depth, kind):
    """A list, tuple or dict that is nested so deep."""
    thing = 1
    for _ in range(depth):
        thing = {"in": thing} if kind is dict else kind([thing])
    return thing


# Objects of the package; no test changes them.
OBJECT = Script(SESSION[0], *SESSION[1])
ONE_STEP = Script(1, ("write", 1, 0))
NO_STEPS = Script(3)
RUNS = (Run(OBJECT, (4, 5, 6)), Marked(OBJECT, (4, 5, 6), 1, 3), Counted(NO_STEPS, (0, 1, 0)),
        CountedMarked(ONE_STEP, (1,), 1))
OBJECTS = (OBJECT, ONE_STEP, NO_STEPS, *RUNS, RUNS[0].trying())

# None of these is a script, a record, stops, an effect, a step, a part, a Script or an integer.
ODD_BUT_SCRIPTS = (
    None, True, False, "", "copy", "3", "field", "a text\nof two lines", [], [1], {}, {"a": 1}, {0: 4, 1: 5, 2: 6},
    {"field": 0}, [3, []], [[("field", 0)]], ((),), ([],), ({},), (None,), ("",), (True,), (1, True), (None, ()),
    deep(20, list), deep(20, tuple), deep(20, dict), [0] * 7990, tuple(["copy"] * 7990), {k: k for k in range(3900)},
    ScriptError("no"), NotSafe(1), LimitError(13, 12), (ScriptError("no"),), *RUNS, RUNS[0].trying(), (OBJECT,),
    [OBJECT], {"a": OBJECT}, (RUNS[0],), (3, OBJECT), (OBJECT, ()), (OBJECT, OBJECT), (OBJECT,) * 3, RUNS[:3],
)

ODD = (*ODD_BUT_SCRIPTS, OBJECT, ONE_STEP, NO_STEPS)

ODD_NUMBERS = (True, False, None, "1", "", (), (1,), [], [1], {}, {1: 1}, LimitError(1, 2), NotSafe(1), deep(20, tuple),
               *OBJECTS)


def drawn_step(rng, fields):
    word = "write" if fields == 1 else rng.choice(("copy", "write", "exchange"))
    if word == "write":
        return (word, rng.randint(0, 9), rng.randrange(fields))
    return (word, *rng.sample(range(fields), 2))


def drawn_script(rng, fields, many):
    return (fields, tuple([drawn_step(rng, fields) for _ in range(many)]))


def drawn_record(rng, fields):
    return tuple([rng.randint(0, 9) for _ in range(fields)])


def drawn_stops(rng, most, many):
    return tuple([rng.randint(0, most) for _ in range(many)])


def drawn_part(rng, fields):
    return rng.choice((("field", rng.randrange(fields)), ("value", rng.randint(0, 9))))


def drawn_effect(rng, fields):
    return tuple([drawn_part(rng, fields) for _ in range(fields)])


def drawn_scripts(seed):
    """Scripts with each possible number of fields and of steps, some of each."""
    rng = random.Random(seed)
    sizes = itertools.product(range(1, 6), range(13), range(4))
    return [drawn_script(rng, fields, many) for fields, many, _ in sizes]


def drawn_effects(seed, many=40):
    """Effects with each possible number of fields, so many of each."""
    rng = random.Random(seed)
    return [drawn_effect(rng, fields) for fields in range(1, 6) for _ in range(many)]


def reckoned(steps, record):
    """The record behind these steps, reckoned in a list."""
    cells = list(record)
    for word, one, other in steps:
        if word == "copy":
            cells[other] = cells[one]
        elif word == "write":
            cells[other] = one
        elif word == "exchange":
            cells[one], cells[other] = cells[other], cells[one]
        else:
            raise AssertionError(word)
    return tuple(cells)


def reckoned_stopped(steps, stops, record):
    for stop in stops:
        record = reckoned(steps[:stop], record)
    return reckoned(steps, record)


def reckoned_applied(parts, record):
    """The record that an effect makes, reckoned part by part."""
    made = []
    for word, number in parts:
        made.append({"field": lambda i: record[i], "value": lambda v: v}[word](number))
    return tuple(made)


def all_effects(fields, values=range(10)):
    parts = [("field", field) for field in range(fields)] + [("value", value) for value in values]
    return list(itertools.product(parts, repeat=fields))


def records_that_tell(fields):
    """Records that tell any two effects on these fields apart."""
    return (tuple(range(fields)), tuple(range(5, 5 + fields)), tuple(range(4, 4 - fields, -1)), (9,) * fields)


def wrong_steps():
    """Values that are no steps on three fields."""
    pairs = ((3, 0), (0, 3), (-1, 0), (0, -1), (1, 1), (True, 0), (0, True), (False, 1), (1, False), (None, 0),
             (0, None), ("1", 0), (0, "1"), ([1], 0), (0, [1]), ((1,), 0), (0, (1,)), ({}, 0), (0, {}), (0, 9),
             (10 ** 12, 0))
    writes = ((10, 0), (-1, 0), (0, 3), (0, -1), (0, 9), (True, 0), (False, 0), (0, True), (0, False), (None, 0),
              (0, None), ("0", 0), (0, "0"), ([0], 0), (0, [0]), ((0,), 0), (0, (0,)), ({}, 0), (0, {}),
              (10 ** 12, 0))
    words = ("move", "Copy", "copy ", "", "copywrite", "swap", "field", "value", None, True, 0, 1, ["copy"], ("copy",),
             {"copy": 1}, ScriptError("copy"), OBJECT, RUNS[0])
    made = [(word, *pair) for word in ("copy", "exchange") for pair in pairs]
    made += [("write", *pair) for pair in writes]
    made += [(word, 0, 1) for word in words]
    made += [[word, 0, 1] for word in ("copy", "write", "exchange")]
    for word in ("copy", "write", "exchange"):
        made += [(word,), (word, 0), (word, 0, 1, 2), (word, (0, 1))]
    return made + [(), 0, 1, *ODD]


def wrong_scripts():
    fields, steps = SESSION
    made = [[fields, steps], (fields,), (steps,), (fields, steps, 0), (fields, *steps), (steps, fields), steps]
    made += [(), 0, 1, 3]
    made += [(number, ()) for number in (0, 6, -1, 10 ** 12, -3, *ODD_NUMBERS)]
    made += [(fields, list(steps)), (fields, steps[0]), (fields, 0), (fields, "copy"), (fields, {}), (fields, None)]
    made += [(fields, odd) for odd in ODD]
    made += [(fields, steps * 4 + steps[:1]), (1, (("write", 0, 0),) * 13), (fields, steps * 100)]
    made += [(fields, (step,)) for step in wrong_steps()]
    made += [(fields, (*steps, step)) for step in wrong_steps()]
    made += [(1, (("copy", 0, 0),)), (1, (("copy", 0, 1),)), (1, (("exchange", 0, 0),)), (1, (("write", 0, 1),))]
    made += [(5, (("copy", 5, 0),)), (5, (("exchange", 0, 5),)), (5, (("write", 0, 5),)), (2, steps)]
    return made + list(ODD)


def wrong_records():
    """Values that are no records of three fields."""
    made = [[4, 5, 6], (), (4,), (4, 5), (4, 5, 6, 7), (4, 5, 6, 7, 8), (4, 5, 10), (10, 5, 6), (-1, 5, 6), (4, 5, -1),
            (4, 10 ** 12, 6), ((4, 5, 6),), "456", 456, 0, 3]
    made += [(odd, 5, 6) for odd in ODD_NUMBERS] + [(4, 5, odd) for odd in ODD_NUMBERS]
    return made + list(ODD)


def wrong_numbers(most):
    return [-1, most + 1, most + 2, -most - 1, 10 ** 12, *ODD_NUMBERS]


def wrong_stops(most):
    """Values that are no stops of a script with so many steps."""
    made = [0, 1, [0], [0, 1], (0,) * 9, (most,) * 9, (0,) * 100, ((0,),), ([0],)]
    made += [(number,) for number in wrong_numbers(most)] + [(0, number) for number in wrong_numbers(most)]
    return made + list(ODD)


def wrong_marks(most):
    """Values that are no marks of a script with so many steps, at least two."""
    made = [0, 1, most, [], [1], [1, 2], (0,), (0, 1), (2, 1), (1, 1), (1, 2, 2), (most, most), (most, 1), ((1,),)]
    made += [(1, most + 1), (-1, 1), (1, 2, 1), tuple(range(most + 1)), tuple(range(1, most + 2)), (1,) * 100, ([1],)]
    made += [(number,) for number in wrong_numbers(most)] + [(1, number) for number in wrong_numbers(most)]
    return made + list(ODD)


def wrong_parts():
    """Values that are no parts of an effect on two fields."""
    made = [("field", number) for number in (2, -1, 9, 10 ** 12, *ODD_NUMBERS)]
    made += [("value", number) for number in (10, -1, 10 ** 12, *ODD_NUMBERS)]
    made += [(word, 0) for word in ("Field", "values", "", "copy", None, 0, True, ("field",), ["value"], {"field": 0},
                                    *OBJECTS)]
    made += [["field", 0], ["value", 0], ("field",), ("value",), ("field", 0, 0), ("value", 0, 0), (0, "field")]
    return made + [(), 0, 1, *ODD]


def wrong_effects():
    made = [(), (("field", 0),) * 6, (("value", 9),) * 6, (("value", 0),) * 100, [("field", 0)], ("field", 0), 0, 1]
    made += [(("field", 1),), (("value", 0), ("field", 2)), (("field", 5),) + (("value", 0),) * 4]
    made += [(part, ("field", 1)) for part in wrong_parts()] + [(("field", 0), part) for part in wrong_parts()]
    return made + list(ODD)


def otherwise(thing):
    """The same thing with one part otherwise: another value, left out, twice, or a list for a tuple."""
    others = [*ODD_NUMBERS, OBJECT.plain, -1, 0, 1, 2, 3, 12, 13, "safe", "stop", "stops", "enough", (0,), (0, 0, 0),
              (1, 0, 1), [0]]
    if not isinstance(thing, tuple):
        return others
    made = [list(thing), (thing,), *others]
    for place, part in enumerate(thing):
        before, behind = thing[:place], thing[place + 1:]
        made += [before + behind, before + (part, part) + behind]
        made += [(*before, other, *behind) for other in otherwise(part)]
    return made + [(*thing, other) for other in others]


def told(function, arguments):
    """What a call gives, exactly: its value with all kinds in it, or the class of its error."""
    try:
        return repr(function(*arguments))
    except ValueError as error:
        return type(error)


def repeats(function, arguments):
    """Whether a call leaves its arguments alone and does the same again."""
    before = repr(arguments)
    first = told(function, arguments)
    return told(function, arguments) == first and repr(arguments) == before


def lists_for_tuples(thing):
    """The same thing with a list for each tuple, at any depth."""
    return [lists_for_tuples(part) for part in thing] if isinstance(thing, tuple) else copy.copy(thing)


def first_wrong(rights, wrongs, errors):
    """Each mixture of right and wrong arguments, with the error that must come first, or None."""
    for choice in itertools.product((False, True), repeat=len(rights)):
        picked = [wrong if bad else right for right, wrong, bad in zip(rights, wrongs, choice)]
        yield tuple(picked), next((error for error, bad in zip(errors, choice) if bad), None)
