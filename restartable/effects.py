"""Effects: what a script makes of every record."""

from restartable.checks import is_field, is_field_count, is_value
from restartable.errors import EffectError, MatchError
from restartable.scripts import after_step, after_steps, check_fields, check_many, check_record, check_script


def is_effect(thing):
    """Whether any value is an effect."""
    if not isinstance(thing, tuple) or not is_field_count(len(thing)):
        return False
    return all([is_part(part, len(thing)) for part in thing])


def is_part(thing, fields):
    """Whether any value is a part of an effect on so many fields."""
    if not isinstance(thing, tuple) or len(thing) != 2:
        return False
    word, number = thing
    if word == "field":
        return is_field(number, fields)
    return word == "value" and is_value(number)


def check_effect(effect):
    """Raise EffectError unless this is an effect."""
    if not is_effect(effect):
        raise EffectError("not an effect")


def effect(script):
    """The effect of all steps."""
    check_script(script)
    return effect_of_steps(script[0], script[1])


def effect_behind(script, many):
    """The effect of the first many steps."""
    check_script(script)
    fields, steps = script
    check_many(many, len(steps))
    return effect_of_steps(fields, steps[:many])


def effect_of_steps(fields, steps):
    """The effect of these steps on so many fields."""
    return after_steps([step_on_parts(step) for step in steps], nothing(fields))


def effects_along(fields, steps):
    """The effects of the first many of these steps, for each number many from 0 to all."""
    rows = [nothing(fields)]
    for step in steps:
        rows.append(after_step(step_on_parts(step), rows[-1]))
    return rows


def step_on_parts(step):
    """The step that does with parts what this one does with values."""
    # Copies and exchanges only move what stands in the fields; a write brings a value of its own.
    word, one, other = step
    if word == "write":
        return (word, ("value", one), other)
    return step


def applied(effect, record):
    """The record that the effect makes of this one."""
    check_effect(effect)
    check_record(record, len(effect))
    return made_of(effect, record)


def made_of(effect, record):
    """The record that the effect makes of this one; nothing is checked."""
    return tuple([record[number] if word == "field" else number for word, number in effect])


def both(one, other):
    """The effect of doing first one and then other."""
    check_effect(one)
    check_effect(other)
    if len(one) != len(other):
        raise MatchError("the effects do not have as many fields")
    return joined(one, other)


def joined(one, other):
    """The effect of doing first one and then other; nothing is checked."""
    return tuple([traced(one, part) for part in other])


def traced(effect, part):
    """The part of the record before the effect that this part of the record behind it is."""
    return effect[part[1]] if part[0] == "field" else part


def nothing(fields):
    """The effect that makes of each record itself."""
    check_fields(fields)
    return tuple([("field", field) for field in range(fields)])


def matters(script):
    """The ascending tuple of the fields that are parts of the script's effect."""
    return fields_read(effect(script))


def fields_read(effect):
    """The ascending tuple of the fields that are parts of the effect."""
    return tuple([field for field in range(len(effect)) if ("field", field) in effect])


def is_unchanged(effect, field):
    """Whether the effect leaves this field as it is."""
    return effect[field] == ("field", field)


def first_record_apart(one, other):
    """The first record of which two different effects make different ones."""
    # Two parts that differ do so on the record of zeros, or on one with a 1 in a field that is one of them.
    rows = records_of_bits(len(one))
    return [row for row in rows if made_of(one, row) != made_of(other, row)][0]


def records_of_bits(fields):
    """All records with the values 0 and 1 alone, ascending."""
    rows = [()]
    for many in range(fields):
        rows = [row + (value,) for row in rows for value in (0, 1)]
    return rows
