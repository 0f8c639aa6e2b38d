"""The error of the program."""


class DragError(ValueError):
    """What the document refuses; reason names it in the document's words."""

    def __init__(self, reason):
        ValueError.__init__(self, reason)
        self.reason = reason
