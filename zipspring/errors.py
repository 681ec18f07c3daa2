"""The refusals. Each stands right under ZipError, so that catching one never catches another."""


class ZipError(ValueError):
    """Any refusal."""


class NoText(ZipError):
    """A text that writes no term or no book."""


class TooBig(ZipError):
    """What has more states or equations than there may be."""


class Told(ZipError):
    """A name whose equation was told already."""


class Waits(ZipError):
    """A name that hangs on an equation that has not come."""


class NoName(ZipError):
    """A name without an equation."""


class NoRow(ZipError):
    """A row that the desk does not know, or a name without just one row."""
