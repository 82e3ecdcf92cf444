"""All exceptions of the package."""


class RestartError(ValueError):
    """Any error of this package."""


class ScriptError(RestartError):
    """A script is required, and this is none."""


class FieldsError(RestartError):
    """A number of fields is required, and this is none."""


class StepError(RestartError):
    """Steps of a script are required, and these are none."""


class RecordError(RestartError):
    """A record with as many fields is required, and this is none."""


class NumberError(RestartError):
    """A number is not among those that are possible here."""


class StopsError(RestartError):
    """Stops are required, and these are none."""


class EffectError(RestartError):
    """An effect is required, and this is none."""


class MarksError(RestartError):
    """Marks of a script are required, and these are none."""


class MatchError(RestartError):
    """Two things do not have as many fields."""


class PlaceError(RestartError):
    """There is no step at this place."""


class TextError(RestartError):
    """A text is not that of a script."""


class Ended(RestartError):
    """No step is left."""


class NothingDone(RestartError):
    """There is nothing to take back."""


class NotSafe(RestartError):
    """No safe script has the effect; the field tells why."""

    def __init__(self, field):
        super().__init__(f"field {field} is read, but does not stay unchanged")
        self.field = field


class LimitError(RestartError):
    """More is handed in than the limit lets."""

    def __init__(self, amount, limit):
        super().__init__(f"{amount} is more than {limit}")
        self.amount = amount
        self.limit = limit
