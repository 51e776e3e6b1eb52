"""The refusals of the program."""


class SetError(ValueError):
    """Any refusal."""


class NoRow(SetError):
    """What was handed in is no row such as is asked for."""


class NoAsk(SetError):
    """A line that asks for nothing that there is."""


class NoWeb(SetError):
    """A text that is no web; row is its first wrong row, counted from 0."""

    def __init__(self, row):
        super().__init__(f"row {row} of the text is wrong")
        self.row = row


class NoName(SetError):
    """A name that may not stand where it stands; word is this name."""

    def __init__(self, word):
        super().__init__(f"the name {word} may not stand here")
        self.word = word
