"""The errors of the package."""


class LeafwardError(ValueError):
    """The base of all errors of the package."""


class BadDocument(LeafwardError):
    """What was handed in is no document, or one beyond the bounds."""


class BadSchema(LeafwardError):
    """What was handed in is no schema, or one beyond the bounds."""


class BadTransformation(LeafwardError):
    """What was handed in is no transformation, or one beyond the bounds."""


class BadText(LeafwardError):
    """A text is not written in the one way that is read."""


class TooMuch(LeafwardError):
    """The answer, or the way to it, is beyond the bounds."""
