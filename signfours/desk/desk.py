"""Desks: things with names, sayings about them that stay true, and steps that can be taken back."""

from signfours.base.checks import is_passed
from signfours.desk.deeds import is_deed, things_behind
from signfours.desk.sayings import is_saying, is_true_of, missing, named
from signfours.errors import InvalidNumber, InvalidOperation, NothingToUndo, Refused, TooMany, UnknownName
from signfours.four.fours import check_algebra

MAX_NAME = 8
MAX_SAID = 30


class Desk:
    """Fours and lattices of one algebra by names, and sayings that are true at every time."""

    def __init__(self, algebra):
        check_algebra(algebra)
        self.algebra = algebra
        # Neither dict nor tuple is ever changed: each step puts others in their place.
        self.kept = {}
        self.sayings = ()
        self.steps = []

    @property
    def things(self):
        """The dict from the names to the things."""
        return dict(self.kept)

    @property
    def past(self):
        """The number of the steps that can be taken back."""
        return len(self.steps)

    def do(self, *deeds):
        """Does the deeds, one after the other."""
        for deed in deeds:
            if not is_deed(self.algebra, deed):
                raise InvalidOperation("no deed")
        made = things_behind(self.kept, deeds)
        check_sayings(made, self.sayings)
        if made != self.kept:
            keep_step(self, made, self.sayings)

    def say(self, saying):
        """Keeps a saying."""
        if not is_saying(saying):
            raise InvalidOperation("no saying")
        wanted = missing(self.kept, named(saying))
        if wanted:
            raise UnknownName(wanted[0])
        if saying in self.sayings:
            return
        if len(self.sayings) >= MAX_SAID:
            raise TooMany(MAX_SAID)
        if not is_true_of(self.kept, saying):
            raise Refused(("false",))
        keep_step(self, self.kept, self.sayings + (saying,))

    def unsay(self, saying):
        """Keeps a saying no more."""
        if not is_saying(saying) or saying not in self.sayings:
            raise UnknownName(saying)
        keep_step(self, self.kept, tuple([kept for kept in self.sayings if kept != saying]))

    def is_true(self, value):
        """Whether the value is a saying, with names of the desk, that is true now."""
        return is_saying(value) and not missing(self.kept, named(value)) and is_true_of(self.kept, value)

    def undo(self, steps=1):
        """Takes back the last steps."""
        if not is_passed(steps) or steps < 1:
            raise InvalidNumber(steps)
        if steps > len(self.steps):
            raise NothingToUndo(steps)
        self.kept, self.sayings = self.steps[-steps]
        self.steps = self.steps[:-steps]

    def twin(self):
        """Another desk with the same things, sayings and steps."""
        made = Desk(self.algebra)
        made.kept = self.kept
        made.sayings = self.sayings
        made.steps = list(self.steps)
        return made

    def __contains__(self, value):
        return isinstance(value, str) and value in self.kept

    def __getitem__(self, name):
        if not isinstance(name, str) or name not in self.kept:
            raise UnknownName(name)
        return self.kept[name]

    def __len__(self):
        return len(self.kept)

    def __iter__(self):
        return iter(self.kept)

    def __eq__(self, value):
        return (
            isinstance(value, Desk) and self.algebra == value.algebra
            and self.kept == value.kept and self.sayings == value.sayings
        )

    def __str__(self):
        return f"desk of {self.algebra}: {len(self.kept)} things, {len(self.sayings)} sayings"


def keep_step(desk, things, sayings):
    """Puts other things and sayings in their place; the step can be taken back."""
    desk.steps.append((desk.kept, desk.sayings))
    desk.kept = things
    desk.sayings = sayings


def check_sayings(things, sayings):
    """Refuses things that lack a name of a saying, and then those of which a saying is false."""
    for saying in sayings:
        if missing(things, named(saying)):
            raise Refused(("taken", saying))
    for saying in sayings:
        if not is_true_of(things, saying):
            raise Refused(("broken", saying))
