"""The shortest safe script for an effect."""

from restartable.effects import check_effect, is_unchanged
from restartable.errors import NotSafe


def clash(effect):
    """The least field that is a part of the effect, but is not unchanged by it, or None."""
    check_effect(effect)
    for field in range(len(effect)):
        if ("field", field) in effect and not is_unchanged(effect, field):
            return field
    return None


def shortest(effect):
    """The script with one step for each field that the effect changes."""
    hindrance = clash(effect)
    if hindrance is not None:
        raise NotSafe(hindrance)
    steps = [step_to(field, part) for field, part in enumerate(effect) if not is_unchanged(effect, field)]
    return (len(effect), tuple(steps))


def step_to(field, part):
    """The step that brings this part into the field."""
    word, number = part
    return ("write" if word == "value" else "copy", number, field)
