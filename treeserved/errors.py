"""The errors of the program, one class for each kind of failure."""


class TreeError(ValueError):
    """The base class of all errors that the program raises."""


class ShapeError(TreeError):
    """Nodes and edges that make no tree: what is wrong, and at which place."""

    def __init__(self, what, place):
        TreeError.__init__(self, f"tree: {what} at {place}")
        self.what = what
        self.place = place


class LineError(TreeError):
    """A text that tells no tree: what is wrong, and in which line, from 1."""

    def __init__(self, what, line):
        TreeError.__init__(self, f"line {line}: {what}")
        self.what = what
        self.line = line


class MetricError(TreeError):
    """Pairs that make no table: what is wrong, and at which place."""

    def __init__(self, what, place):
        TreeError.__init__(self, f"table: {what} at {place}")
        self.what = what
        self.place = place


class RouteError(TreeError):
    """Loads that cannot be moved into each other: what is wrong."""

    def __init__(self, what):
        TreeError.__init__(self, f"loads: {what}")
        self.what = what


class YardError(TreeError):
    """A deed that cannot be done on a yard: what is wrong."""

    def __init__(self, what):
        TreeError.__init__(self, f"yard: {what}")
        self.what = what
