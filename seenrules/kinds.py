"""Kinds: the fields of a case, the answers, and how many tests a rule may have."""

from seenrules.errors import (
    InvalidAnswer,
    InvalidAnswers,
    InvalidCase,
    InvalidFields,
    InvalidInteger,
    InvalidKind,
    InvalidNames,
    InvalidText,
    NoField,
)
from seenrules.known import Known
from seenrules.values import are_different, are_words, is_integer, is_list, is_number, is_word, parse_number

OPERATORS = {"word": ("is", "not"), "number": ("most", "least")}
MOST_FIELDS = 4
LEAST_ANSWERS = 2
MOST_ANSWERS = 5
MOST_WIDTH = 2


def is_field(value):
    """Tell whether any value is a name together with the sort of its values."""
    if not isinstance(value, tuple) or len(value) != 2:
        return False
    return is_word(value[0]) and value[1] in ("word", "number")


def are_fields(value):
    """Tell whether any value is a list of fields for a kind."""
    if not is_list(value) or len(value) > MOST_FIELDS or not all([is_field(item) for item in value]):
        return False
    return are_different([name for name, sort in value])


def are_answers(value):
    """Tell whether any value is a list of answers for a kind."""
    return are_words(value, LEAST_ANSWERS, MOST_ANSWERS) and are_different(value)


def checked_fields(value):
    """Return the tuple of the fields in any value, or raise an exception if it is no list of them."""
    if not are_fields(value):
        raise InvalidFields(value)
    # A tuple, because a kind never changes.
    return tuple(value)


def checked_answers(value):
    """Return the tuple of the answers in any value, or raise an exception if it is no list of them."""
    if not are_answers(value):
        raise InvalidAnswers(value)
    return tuple(value)


def is_width(value):
    """Tell whether any value is a width for a kind."""
    return is_integer(value, 0, MOST_WIDTH)


def is_of_sort(value, sort):
    """Tell whether any value may stand in a field of words or of numbers."""
    return is_word(value) if sort == "word" else is_number(value)


def text_parts(width, fields, answers):
    """Return the three parts of the text of a kind."""
    shown = " ".join([f"{name}:{sort}" for name, sort in fields])
    return [str(width), shown or "-", " ".join(answers)]


def read_fields(text):
    """Return the list of fields that a part of a text stands for, whether they are valid or not."""
    if text == "-":
        return []
    return [tuple(shown.split(":")) for shown in text.split(" ")]


class Kind:
    """What a case consists of, which answers there are, and the greatest number of tests of a rule."""

    def __init__(self, fields, answers, *, width=1):
        self.own_fields = fields.rows if isinstance(fields, Known) else checked_fields(fields)
        self.own_answers = answers.rows if isinstance(answers, Known) else checked_answers(answers)
        if not is_width(width):
            raise InvalidInteger(width)
        self.own_width = width

    def fields(self):
        """Return the list of the fields, tuples of a name and "word" or "number"."""
        return list(self.own_fields)

    def names(self):
        """Return the list of the names of the fields."""
        return [name for name, sort in self.own_fields]

    def answers(self):
        """Return the list of the answers."""
        return list(self.own_answers)

    @property
    def width(self):
        """The greatest number of tests of a rule."""
        return self.own_width

    def kind_of(self, name):
        """Return "word" or "number", the sort of the values of a field."""
        for own_name, sort in self.own_fields:
            if own_name == name:
                return sort
        raise NoField(name)

    def with_width(self, width):
        """Return the kind with the same fields and answers and this width."""
        return Kind(Known(self.own_fields), Known(self.own_answers), width=width)

    def projected(self, names):
        """Return the kind that has only the named fields, in the order of this kind."""
        own_names = self.names()
        if not is_list(names) or not all([name in own_names for name in names]) or not are_different(names):
            raise InvalidNames(names)
        fields = tuple([field for field in self.own_fields if field[0] in names])
        return Kind(Known(fields), Known(self.own_answers), width=self.own_width)

    def __eq__(self, other):
        return (
            isinstance(other, Kind)
            and self.own_fields == other.own_fields
            and self.own_answers == other.own_answers
            and self.own_width == other.own_width
        )

    def __str__(self):
        return " | ".join(text_parts(self.own_width, self.own_fields, self.own_answers))

    @classmethod
    def parse(cls, text):
        """Return the kind with a text as str gives it."""
        parts = text.split(" | ") if isinstance(text, str) else []
        if len(parts) != 3:
            raise InvalidText(text)
        width = parse_number(parts[0])
        fields = read_fields(parts[1])
        answers = parts[2].split(" ")
        if not are_fields(fields) or not are_answers(answers) or not is_width(width):
            raise InvalidText(text)
        return cls(fields, answers, width=width)

    def is_case(self, value):
        """Tell whether any value is a tuple with one value for each field, in order."""
        if not isinstance(value, tuple) or len(value) != len(self.own_fields):
            return False
        for field, item in zip(self.own_fields, value):
            if not is_of_sort(item, field[1]):
                return False
        return True

    def is_test(self, value):
        """Tell whether any value is a tuple of a field's name, an operator for it, and a value for it."""
        if not isinstance(value, tuple) or len(value) != 3:
            return False
        name, operator, limit = value
        if name not in self.names():
            return False
        sort = self.kind_of(name)
        return operator in OPERATORS[sort] and is_of_sort(limit, sort)


def check_kind(value):
    """Raise InvalidKind for any value that is not a kind."""
    if not isinstance(value, Kind):
        raise InvalidKind(value)


def check_case(kind, value):
    """Raise InvalidCase for any value that is not a case of a kind."""
    if not kind.is_case(value):
        raise InvalidCase(value)


def check_answer(kind, value):
    """Raise InvalidAnswer for any value that is not an answer of a kind."""
    if value not in kind.answers():
        raise InvalidAnswer(value)
