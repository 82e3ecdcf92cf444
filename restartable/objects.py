"""Scripts as objects."""

from restartable.checks import is_number
from restartable.effects import effect_of_steps, fields_read
from restartable.errors import LimitError, MatchError, NumberError, PlaceError, ScriptError, StepError
from restartable.scripts import MOST_STEPS, after_steps, check_fields, check_record, is_step
from restartable.shortest import shortest
from restartable.texts import script_of, text_of
from restartable.verdicts import verdict

MOST_TIMES = 12


class Script:
    """A script that can be called, added, multiplied, written and read."""

    def __init__(self, fields, *steps):
        check_fields(fields)
        if not all([is_step(step, fields) for step in steps]):
            raise StepError("not steps on these fields")
        if len(steps) > MOST_STEPS:
            raise LimitError(len(steps), MOST_STEPS)
        self.width = fields
        self.rows = steps

    @property
    def fields(self):
        """The number of fields."""
        return self.width

    @property
    def steps(self):
        """The tuple of the steps."""
        return self.rows

    @property
    def plain(self):
        """The script as a tuple."""
        return (self.width, self.rows)

    @property
    def effect(self):
        """The effect of all steps."""
        return effect_of_steps(self.width, self.rows)

    @property
    def matters(self):
        """The ascending tuple of the fields that matter."""
        return fields_read(self.effect)

    @property
    def safe(self):
        """Whether the script is safe."""
        return verdict(self.plain)[0] == "safe"

    def __call__(self, record):
        """The record behind all steps."""
        check_record(record, self.width)
        return after_steps(self.rows, record)

    def __add__(self, other):
        """The steps of this script and then those of the other."""
        if not isinstance(other, Script):
            raise ScriptError("not a Script")
        if self.width != other.width:
            raise MatchError("the scripts do not have as many fields")
        steps = self.rows + other.rows
        return Script(self.width, *steps)

    def __mul__(self, other):
        """The steps of this script so many times."""
        if not is_number(other, 0, MOST_TIMES):
            raise NumberError("not a number from 0 to 12")
        steps = self.rows * other
        return Script(self.width, *steps)

    def __len__(self):
        """The number of steps."""
        return len(self.rows)

    def __getitem__(self, at):
        """The step at this place."""
        if not is_number(at, 0, len(self.rows) - 1):
            raise PlaceError("no step has this place")
        return self.rows[at]

    def __iter__(self):
        # Otherwise Python would try the places one by one, up to the one that is refused with PlaceError.
        raise TypeError("a Script is not iterated over; its steps are")

    def __contains__(self, x):
        """Whether any value is one of the steps."""
        # To Python True equals 1, so that looking it up alone would let a bool pass for an integer.
        return is_step(x, self.width) and x in self.rows

    def __eq__(self, other):
        """Whether this is a Script with the same fields and steps."""
        return isinstance(other, Script) and self.width == other.width and self.rows == other.rows

    def __repr__(self):
        """The numbers of fields and of steps."""
        return f"Script({self.width} fields, {len(self.rows)} steps)"

    def text(self):
        """A line with the fields, and a line for each step."""
        return text_of(self.plain)

    @classmethod
    def read(cls, text):
        """The script with exactly this text."""
        fields, steps = script_of(text)
        return cls(fields, *steps)

    @staticmethod
    def of(effect):
        """The shortest safe script with this effect."""
        fields, steps = shortest(effect)
        return Script(fields, *steps)
