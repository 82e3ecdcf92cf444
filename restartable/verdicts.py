"""Whether a script is safe, and what runs of it with stops can lead to."""

from restartable.checks import are_numbers, is_number
from restartable.effects import effects_along, first_record_apart, joined, made_of, matters
from restartable.scripts import after_steps, after_stops, check_record, check_script, is_record


def verdict(script):
    """That the script is safe, with the fields that matter, or the first stop that leads to another result."""
    check_script(script)
    ways = effects_along(script[0], script[1])
    whole = ways[-1]
    for many, way in enumerate(ways):
        again = joined(way, whole)
        if again != whole:
            return ("stop", many, first_record_apart(again, whole))
    # Where no single stop changes a field that matters, no row of stops does.
    return ("safe", matters(script))


def shows_verdict(script, thing):
    """Whether any value shows that the script is safe, or shows one stop that leads to another result."""
    check_script(script)
    if not isinstance(thing, tuple):
        return False
    if len(thing) == 2:
        return shows_safe(script, thing)
    return len(thing) == 3 and shows_stop(script, thing)


def shows_safe(script, pair):
    """Whether this pair is the verdict on a safe script."""
    # To Python True equals 1, so that comparing alone would let a bool pass for a field.
    return are_numbers(pair[1], 0, script[0] - 1) and pair == verdict(script)


def shows_stop(script, triple):
    """Whether these three tell of a stop that leads to another result."""
    fields, steps = script
    word, many, record = triple
    if word != "stop" or not is_number(many, 0, len(steps)) or not is_record(record, fields):
        return False
    return after_stops(steps, (many,), record) != after_steps(steps, record)


def results(script):
    """The ascending tuple of all effects that runs with any stops can have at their end."""
    check_script(script)
    return tuple(ends_of_runs(effects_along(script[0], script[1])))


def ends_of_runs(ways):
    """The ascending list of the effects of any row of these ways, each taken any number of times, and then the last."""
    # The rows grow at their front, so that each effect on the way is a result; grown at the end, far more were met.
    starts = sorted(set(ways))
    known = set()
    known.add(ways[-1])
    waiting = [ways[-1]]
    while waiting:
        end = waiting.pop()
        for start in starts:
            longer = joined(start, end)
            if longer not in known:
                known.add(longer)
                waiting.append(longer)
    return sorted(known)


def outcomes(script, record):
    """The ascending tuple of all records that can be the last one of runs with any stops."""
    check_script(script)
    check_record(record, script[0])
    return tuple(sorted({made_of(end, record) for end in results(script)}))
