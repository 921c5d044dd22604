"""The errors of the package."""

# No error here passes its arguments on to the class above. Python itself keeps
# them when an error is created, so its text tells all of them and it can be
# copied.


class RemadeError(ValueError):
    """What all errors of the package are."""


class BadScript(RemadeError):
    """What was passed is no script."""

    def __init__(self, place, why):
        self.place = place
        self.why = why


class BadDeed(RemadeError):
    """A deed has none of the forms, or it is not let by."""

    def __init__(self, index):
        self.index = index


class BadText(RemadeError):
    """What was passed is not the text of a script."""

    def __init__(self, line):
        self.line = line


class Unlike(RemadeError):
    """Two scripts cannot be compared."""

    def __init__(self, stage):
        self.stage = stage


class TooMany(RemadeError):
    """There is more to look at than the bounds allow."""

    def __init__(self):
        # Otherwise it would take whatever it is passed.
        pass


class NoSuch(RemadeError):
    """There is nothing under this value."""

    def __init__(self, value):
        self.value = value


class NothingToUndo(RemadeError):
    """No deed is left that could be taken back."""

    def __init__(self):
        # Otherwise it would take whatever it is passed.
        pass
