"""The refusals: one class for each, all under StaveError."""


class StaveError(ValueError):
    """Any refusal."""


class BadKey(StaveError):
    """What is no key."""


class BadRoom(StaveError):
    """What is no room of a line."""


class BadText(StaveError):
    """What no page is written as."""


class TooThick(StaveError):
    """Chords that need more voices than there may be."""


class BadNotes(StaveError):
    """What is no list of notes; at is the place of the first wrong one, or None."""

    def __init__(self, at):
        self.at = at


class BadMeter(StaveError):
    """What is no meter; at is the place of the first wrong tuple, or None."""

    def __init__(self, at):
        self.at = at


class TooWide(StaveError):
    """A bar that is wider than the room; at is the first such bar."""

    def __init__(self, at):
        self.at = at
