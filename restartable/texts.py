"""The text of a script, and the script with a text."""

from restartable.checks import MOST_FIELDS, MOST_VALUE
from restartable.errors import TextError
from restartable.scripts import MOST_STEPS, is_step

# For each word of a step the one that stands between its numbers.
BETWEEN = {"copy": "to", "write": "to", "exchange": "and"}


def text_of(script):
    """The text of a script; nothing is checked."""
    fields, steps = script
    lines = [line_of_fields(fields)] + [line_of_step(step) for step in steps]
    return "".join([f"{line}\n" for line in lines])


def line_of_fields(fields):
    """The line that tells the number of fields."""
    return f"fields {fields}"


def line_of_step(step):
    """The line of one step."""
    word, one, other = step
    return f"{word} {one} {BETWEEN[word]} {other}"


def script_of(text):
    """The script with exactly this text."""
    if not isinstance(text, str):
        raise TextError("not a text")
    first, *lines = text.split("\n")
    fields = known_fields().get(first)
    # Behind the line feed that ends the last line an empty text is left.
    if fields is None or lines[-1:] != [""] or len(lines) - 1 > MOST_STEPS:
        raise TextError("not the text of a script")
    known = known_steps(fields)
    steps = [known.get(line) for line in lines[:-1]]
    if None in steps:
        raise TextError("not the text of a step of this script")
    return (fields, tuple(steps))


def known_fields():
    """The numbers of fields by their lines."""
    return {line_of_fields(fields): fields for fields in range(1, MOST_FIELDS + 1)}


def known_steps(fields):
    """All steps on so many fields by their lines."""
    rows = [(word, one, other) for word in BETWEEN for one in range(MOST_VALUE + 1) for other in range(fields)]
    return {line_of_step(step): step for step in rows if is_step(step, fields)}
