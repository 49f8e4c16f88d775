"""The exceptions of the package.

Each class is directly under one of three bases. Python keeps what an exception
is made with and shows it as the message, so no class writes one of its own.
"""


class SeenError(ValueError):
    """An argument is invalid."""


class AbsentError(KeyError):
    """A name, an entry or a rule does not exist."""


class StateError(LookupError):
    """The call is not possible now."""


class InvalidAnswer(SeenError):
    """The value is not an answer of the kind."""

    def __init__(self, value):
        self.value = value


class InvalidAnswers(SeenError):
    """The value is not a list of two to five different words."""

    def __init__(self, value):
        self.value = value


class InvalidCase(SeenError):
    """The value is not a case of the kind."""

    def __init__(self, value):
        self.value = value


class InvalidClass(SeenError):
    """The value is not a class of the log."""

    def __init__(self, value):
        self.value = value


class InvalidEntries(SeenError):
    """The value is not a list of entries of the kind."""

    def __init__(self, value):
        self.value = value


class InvalidFields(SeenError):
    """The value is not a list of at most four fields with different names."""

    def __init__(self, value):
        self.value = value


class InvalidHistory(SeenError):
    """The value is not a history: cuts, and one rule list more."""

    def __init__(self, value):
        self.value = value


class InvalidInteger(SeenError):
    """The value is not an integer of the range that is asked for."""

    def __init__(self, value):
        self.value = value


class InvalidKind(SeenError):
    """The value is not a Kind."""

    def __init__(self, value):
        self.value = value


class InvalidLine(SeenError):
    """The value is not a line of a session."""

    def __init__(self, value):
        self.value = value


class InvalidList(SeenError):
    """The value is not a RuleList."""

    def __init__(self, value):
        self.value = value


class InvalidLog(SeenError):
    """The value is not a Log."""

    def __init__(self, value):
        self.value = value


class InvalidNames(SeenError):
    """The value is not a list of different names of fields of the kind."""

    def __init__(self, value):
        self.value = value


class InvalidRules(SeenError):
    """The value is not a list of rules of the kind."""

    def __init__(self, value):
        self.value = value


class InvalidTest(SeenError):
    """The value is not a test of the kind."""

    def __init__(self, value):
        self.value = value


class InvalidTests(SeenError):
    """The value is not a list of tests of the kind."""

    def __init__(self, value):
        self.value = value


class InvalidText(SeenError):
    """The value is not a text of what is asked for."""

    def __init__(self, value):
        self.value = value


class InvalidValues(SeenError):
    """The value is not a dict of values for the fields of the kind."""

    def __init__(self, value):
        self.value = value


class InvalidWindows(SeenError):
    """The value is not a list of windows."""

    def __init__(self, value):
        self.value = value


class InvalidWords(SeenError):
    """The value is not a list of at most a hundred words."""

    def __init__(self, value):
        self.value = value


class OtherKind(SeenError):
    """The value belongs to another kind."""

    def __init__(self, value):
        self.value = value


class TooMany(SeenError):
    """The count is greater than what is allowed."""

    def __init__(self, count):
        self.count = count


class NoEntry(AbsentError):
    """The value is not the index of an entry."""

    def __init__(self, value):
        self.value = value


class NoField(AbsentError):
    """The value is not the name of a field."""

    def __init__(self, value):
        self.value = value


class NoRule(AbsentError):
    """The value is not the index of a rule."""

    def __init__(self, value):
        self.value = value


class DoesNotFit(StateError):
    """Nothing explains the log; the evidence is a core or a list of windows."""

    def __init__(self, evidence):
        self.evidence = evidence


class NothingToRedo(StateError):
    """There is no undone deed."""


class NothingToUndo(StateError):
    """There is no deed in force."""
