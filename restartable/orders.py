"""Orders of a script's steps that keep its effect and are safe."""

from restartable.effects import effect, is_unchanged, matters, nothing, step_on_parts
from restartable.errors import LimitError
from restartable.scripts import after_step, check_script

MOST_IN_ORDER = 6


def orders(script):
    """Yield, ascending, the orders in which the steps have the same effect and are safe."""
    check_script(script)
    fields, steps = script
    if len(steps) > MOST_IN_ORDER:
        raise LimitError(len(steps), MOST_IN_ORDER)
    whole = effect(script)
    # What matters depends on the effect alone, so with the same effect the same fields must stay unchanged.
    needed = matters(script)
    rows = [((), nothing(fields))]
    for many in range(len(steps)):
        rows = [longer for row, done in rows for longer in rows_with_one_more(steps, needed, row, done)]
    for row, done in rows:
        if done == whole:
            yield row


def rows_with_one_more(steps, needed, row, done):
    """The row with each further step that leaves what is needed unchanged, ascending, and the effect behind it."""
    free = [number for number in range(len(steps)) if number not in row]
    longer = [(row + (number,), after_step(step_on_parts(steps[number]), done)) for number in free]
    return [(numbers, parts) for numbers, parts in longer if all([is_unchanged(parts, field) for field in needed])]
