"""Marks from which a script goes on when it is begun again."""

from restartable.checks import are_numbers
from restartable.effects import effects_along, first_record_apart, joined, nothing, traced
from restartable.errors import MarksError
from restartable.scripts import MOST_STEPS, after_steps, check_record, check_script, check_stops, is_record


def are_marks(thing, steps):
    """Whether any value is a tuple of marks of so many steps."""
    if not are_numbers(thing, 1, steps):
        return False
    return all([one < other for one, other in zip(thing, thing[1:])])


def check_marks(marks, steps):
    """Raise MarksError unless these are marks of so many steps."""
    if not are_marks(marks, steps):
        raise MarksError("not marks of this script")


def marked(script, marks, stops, record):
    """The last record of a run with these marks and stops."""
    check_script(script)
    fields, steps = script
    check_marks(marks, len(steps))
    check_stops(stops, MOST_STEPS)
    check_record(record, fields)
    return after_marked(steps, marks, stops, record)


def after_marked(steps, marks, stops, record):
    """The last record of a run of these steps with marks and stops; nothing is checked."""
    start = 0
    for many in stops:
        # A slice that reaches too far is just what is left.
        record = after_steps(steps[start:start + many], record)
        start = start_behind(marks, start + many)
    return after_steps(steps[start:], record)


def start_behind(marks, place):
    """The place at which a run goes on that has done the steps before this place."""
    return max([0] + [mark for mark in marks if mark <= place])


def marks_verdict(script, marks):
    """That the marks are enough, or the first stops and the first record that lead to another result."""
    check_script(script)
    check_marks(marks, len(script[1]))
    ways = all_ways(all_legs(script), marks)
    levels = levels_before_harm(ways)
    if not levels:
        return ("enough",)
    stops, end = first_harm(ways, levels)
    return ("stops", stops, first_record_apart(end, whole_effect(ways)))


def shows_marks(script, marks, thing):
    """Whether any value shows that the marks are enough, or shows stops that lead to another result."""
    check_script(script)
    check_marks(marks, len(script[1]))
    if not isinstance(thing, tuple):
        return False
    if len(thing) == 1:
        return thing[0] == "enough" and are_enough(all_legs(script), marks)
    return len(thing) == 3 and shows_stops(script, marks, thing)


def shows_stops(script, marks, triple):
    """Whether these three tell of stops that lead to another result."""
    fields, steps = script
    word, stops, record = triple
    if word != "stops" or not are_numbers(stops, 0, MOST_STEPS) or not is_record(record, fields):
        return False
    return after_marked(steps, marks, stops, record) != after_steps(steps, record)


def fewest(script):
    """The first one of the shortest tuples of marks that are enough."""
    check_script(script)
    legs = all_legs(script)
    reaches = [reach_of(legs, start) for start in range(len(legs))]
    # All marks are enough, so one of the rows is found.
    for many in range(len(legs)):
        for marks in rows_of_marks(reaches, 0, many):
            if are_enough(legs, marks):
                return marks


def all_legs(script):
    """For each place in the script the effects of the next many steps, for each number many from 0 to all."""
    fields, steps = script
    return [effects_along(fields, steps[start:]) for start in range(len(steps) + 1)]


def all_ways(legs, marks):
    """For each place at which a run may be begun: the ways from there."""
    return {start: ways_from(legs, marks, start) for start in (0, *marks)}


def ways_from(legs, marks, start):
    """For each number of steps from this start: their effect, and the start of the run that goes on behind them."""
    return [(leg, start_behind(marks, start + many)) for many, leg in enumerate(legs[start])]


def rest_from(ways, start):
    """The effect of all steps from this start on."""
    return ways[start][-1][0]


def whole_effect(ways):
    """The effect of one whole run."""
    return rest_from(ways, 0)


def are_enough(legs, marks):
    """Whether no stops lead to another result."""
    return not levels_before_harm(all_ways(legs, marks))


def levels_before_harm(ways):
    """The pairs of each start with 0 stops, 1 stop and so on, before there is another result; [] if there is none."""
    # A pair is a field, and a part of the record at this start that the field can be in the last record. Each field
    # of that record comes from one part alone, so the pairs tell all; whole effects would be far more.
    whole = whole_effect(ways)
    pairs = {start: list(enumerate(rest_from(ways, start))) for start in ways}
    levels = []
    while not is_harm(nothing(len(whole)), pairs[0], whole):
        levels.append(pairs)
        pairs = with_one_stop_more(ways, pairs)
        if pairs == levels[-1]:
            return []
    return levels


def with_one_stop_more(ways, pairs):
    """For each start the ascending list of its pairs if the run stops once more before."""
    return {start: pairs_behind(ways[start], pairs) for start in ways}


def pairs_behind(ways, pairs):
    """The ascending list of the pairs to which these ways lead."""
    return sorted({(field, traced(leg, part)) for leg, start in ways for field, part in pairs[start]})


def is_harm(done, pairs, whole):
    """Whether one of the pairs, behind what is done, is not as in the whole effect."""
    return any([traced(done, part) != whole[field] for field, part in pairs])


def first_harm(ways, levels):
    """The first one of the shortest tuples of stops that lead to another result, and the effect to which they lead."""
    whole = whole_effect(ways)
    stops, start, done = (), 0, nothing(len(whole))
    # With each stop there is one stop less to come.
    for pairs in levels[::-1]:
        many = first_harmful(ways[start], done, pairs, whole)
        leg, onward = ways[start][many]
        stops, start, done = stops + (many,), onward, joined(done, leg)
    return (stops, joined(done, rest_from(ways, start)))


def first_harmful(ways, done, pairs, whole):
    """The least number of steps behind which these pairs can still lead to another result."""
    return [many for many, (leg, onward) in enumerate(ways) if is_harm(joined(done, leg), pairs[onward], whole)][0]


def reach_of(legs, start):
    """The last place up to which one stop does no harm to a run that is then begun at this start."""
    whole, rest, place = legs[0][-1], legs[start][-1], start
    while place + 1 < len(legs) and joined(legs[0][place + 1], rest) == whole:
        place += 1
    return place


def rows_of_marks(reaches, start, many):
    """The ascending list of all tuples of so many marks behind this start with which one stop alone does no harm."""
    last = len(reaches) - 1
    if many == 0:
        return [()] if reaches[start] == last else []
    rows = []
    for mark in range(start + 1, min(reaches[start] + 1, last) + 1):
        rows += [(mark, *row) for row in rows_of_marks(reaches, mark, many - 1)]
    return rows
