"""The errors of the package: each one carries the thing that was wrong."""


class SlopeError(Exception):
    """The base class of all errors of the package."""

    def __init__(self, thing=None):
        self.thing = thing


class BadNumber(SlopeError):
    """Something should be a number and is none."""

    def __init__(self, thing):
        SlopeError.__init__(self, thing)


class BadQuotient(SlopeError):
    """Something should be a quotient and is none."""

    def __init__(self, thing):
        SlopeError.__init__(self, thing)


class BadEquation(SlopeError):
    """Something should be an equation and is none."""

    def __init__(self, thing):
        SlopeError.__init__(self, thing)


class BadPoint(SlopeError):
    """Something should be a point and is none."""

    def __init__(self, thing):
        SlopeError.__init__(self, thing)


class BadAnswer(SlopeError):
    """Something should be an answer and is none."""

    def __init__(self, thing):
        SlopeError.__init__(self, thing)


class BadDegree(SlopeError):
    """Something should be a degree and is none."""

    def __init__(self, thing):
        SlopeError.__init__(self, thing)


class BadPlace(SlopeError):
    """Something should be a place and is none."""

    def __init__(self, thing):
        SlopeError.__init__(self, thing)


class BadForm(SlopeError):
    """Something should be a form and is none."""

    def __init__(self, thing):
        SlopeError.__init__(self, thing)


class BadWriting(SlopeError):
    """Something should be a writing and is none."""

    def __init__(self, thing):
        SlopeError.__init__(self, thing)


class BadChange(SlopeError):
    """Something should be a change and is none."""

    def __init__(self, thing):
        SlopeError.__init__(self, thing)


class BadFraction(SlopeError):
    """Something should be a fraction or a power as a parameter and is none."""

    def __init__(self, thing):
        SlopeError.__init__(self, thing)
