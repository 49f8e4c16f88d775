"""Items that the package has checked before or made itself."""


class Known:
    """A tuple of valid items: an object that gets them in the place of a list does not look at them again."""

    def __init__(self, rows):
        self.rows = rows
