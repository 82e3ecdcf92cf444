"""Scripts and records, and runs of a script with and without stops."""

from restartable.checks import are_numbers, is_field, is_field_count, is_number, is_value
from restartable.errors import FieldsError, NumberError, RecordError, ScriptError, StopsError

MOST_STEPS = 12
MOST_STOPS = 8


def is_script(thing):
    """Whether any value is a script."""
    if not isinstance(thing, tuple) or len(thing) != 2:
        return False
    fields, steps = thing
    return is_field_count(fields) and are_steps(steps, fields)


def are_steps(thing, fields):
    """Whether any value is a tuple of steps that a script on so many fields may have."""
    if not isinstance(thing, tuple) or len(thing) > MOST_STEPS:
        return False
    return all([is_step(step, fields) for step in thing])


def is_step(thing, fields):
    """Whether any value is a step on so many fields."""
    if not isinstance(thing, tuple) or len(thing) != 3:
        return False
    word, one, other = thing
    if word == "write":
        return is_value(one) and is_field(other, fields)
    if word == "copy" or word == "exchange":
        return is_field(one, fields) and is_field(other, fields) and one != other
    return False


def is_record(thing, fields):
    """Whether any value is a record with so many fields."""
    if not isinstance(thing, tuple) or len(thing) != fields:
        return False
    return all([is_value(value) for value in thing])


def are_stops(thing, most):
    """Whether any value is a tuple of stops, each after at most so many steps."""
    return are_numbers(thing, 0, most) and len(thing) <= MOST_STOPS


def check_script(script):
    """Raise ScriptError unless this is a script."""
    if not is_script(script):
        raise ScriptError("not a script")


def check_fields(fields):
    """Raise FieldsError unless this is a possible number of fields."""
    if not is_field_count(fields):
        raise FieldsError("not a number of fields from 1 to 5")


def check_record(record, fields):
    """Raise RecordError unless this is a record with so many fields."""
    if not is_record(record, fields):
        raise RecordError("not a record with a value for each field")


def check_stops(stops, most):
    """Raise StopsError unless these are stops, each after at most so many steps."""
    if not are_stops(stops, most):
        raise StopsError("not stops that can be made")


def check_many(many, most):
    """Raise NumberError unless this is a number of steps of at most so many."""
    if not is_number(many, 0, most):
        raise NumberError("not a number of steps that can be done")


def with_item(row, place, item):
    """The row with this item at its place."""
    return row[:place] + (item,) + row[place + 1:]


def after_step(step, row):
    """The row behind one step; what the row holds may be anything."""
    word, one, other = step
    if word == "copy":
        return with_item(row, other, row[one])
    if word == "write":
        return with_item(row, other, one)
    return with_item(with_item(row, one, row[other]), other, row[one])


def after_steps(steps, row):
    """The row behind all of these steps."""
    for step in steps:
        row = after_step(step, row)
    return row


def run(script, record):
    """The record behind all steps."""
    check_script(script)
    fields, steps = script
    check_record(record, fields)
    return after_steps(steps, record)


def behind(script, many, record):
    """The record behind the first many steps."""
    check_script(script)
    fields, steps = script
    check_many(many, len(steps))
    check_record(record, fields)
    return after_steps(steps[:many], record)


def stopped(script, stops, record):
    """The last record of a run that is stopped after these numbers of steps, and then runs to its end."""
    check_script(script)
    fields, steps = script
    check_stops(stops, len(steps))
    check_record(record, fields)
    return after_stops(steps, stops, record)


def after_stops(steps, stops, record):
    """The last record of a run of these steps that is stopped so; nothing is checked."""
    for many in stops:
        record = after_steps(steps[:many], record)
    return after_steps(steps, record)
