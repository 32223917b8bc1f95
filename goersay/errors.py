"""The refusals: each class right under GoerError, none under another."""


class GoerError(ValueError):
    """What all refusals are."""


class NoRest(GoerError):
    """It is no rest."""


class NoNumber(GoerError):
    """It is no number, or none of those that are told."""


class NoRing(GoerError):
    """No ring could have this."""


class NoName(GoerError):
    """It is none of the names; name is the thing itself."""

    def __init__(self, name):
        GoerError.__init__(self, f"no such name: {name!r}")
        self.name = name


class NoOrder(GoerError):
    """It is no order of the names, or none that may be."""


class NoSighting(GoerError):
    """The thing at this place is no sighting."""

    def __init__(self, at):
        GoerError.__init__(self, f"no sighting at place {at}")
        self.at = at


class Clash(GoerError):
    """What two sightings, one and other, say of a name has no number in common."""

    def __init__(self, name, one, other):
        GoerError.__init__(self, f"of {name} nothing fits both {one} and {other}")
        self.name = name
        self.one = one
        self.other = other


class NoDeed(GoerError):
    """The thing at this place is no deed."""

    def __init__(self, at):
        GoerError.__init__(self, f"no deed at place {at}")
        self.at = at


class NoWatcher(GoerError):
    """It is none of the watchers; name is the thing itself."""

    def __init__(self, name):
        GoerError.__init__(self, f"no such watcher: {name!r}")
        self.name = name


class NoLog(GoerError):
    """From this row on it is no log."""

    def __init__(self, row):
        GoerError.__init__(self, f"no log from row {row} on")
        self.row = row


class NoText(GoerError):
    """This row isn't written as it has to be."""

    def __init__(self, row):
        GoerError.__init__(self, f"no text in row {row}")
        self.row = row


class TooMany(GoerError):
    """There are more, or fewer, than may be; most is the bound."""

    def __init__(self, most):
        GoerError.__init__(self, f"beyond the bound {most}")
        self.most = most
