"""The classes into which a log divides all cases, and the answers that are possible in each."""

from seenrules.cores import check_left
from seenrules.errors import InvalidClass, TooMany
from seenrules.kinds import check_answer, check_case
from seenrules.logs import check_log, check_room
from seenrules.questions import Question
from seenrules.tables import Table
from seenrules.values import LARGEST_NUMBER, choices, first_other, product

MOST_CLASSES = 60
MOST_BEFORE_GAINED = 15
OTHER = ("other",)


def word_parts(words):
    """Return the parts of the classes for a field with some words."""
    return [*[("is", word) for word in sorted(set(words))], OTHER]


def number_parts(numbers):
    """Return the parts of the classes for a field with some numbers."""
    parts = []
    low = -LARGEST_NUMBER
    for number in sorted(set(numbers)):
        if low < number:
            parts.append(("from", low, number - 1))
        parts.append(("from", number, number))
        low = number + 1
    if low <= LARGEST_NUMBER:
        parts.append(("from", low, LARGEST_NUMBER))
    return parts


def parts_of(log):
    """Return for each field of a log the list of the parts of the classes, in order."""
    columns = []
    for place, field in enumerate(log.kind.fields()):
        values = [case[place] for case, answer in log.entries()]
        columns.append(word_parts(values) if field[1] == "word" else number_parts(values))
    return columns


def check_classes(columns):
    """Raise TooMany if there are more classes of some parts than are listed."""
    count = product([len(parts) for parts in columns])
    if count > MOST_CLASSES:
        raise TooMany(count)


def classes_of(log):
    """Return the list of all classes of a log."""
    check_log(log)
    columns = parts_of(log)
    check_classes(columns)
    return choices(columns)


def part_of(parts, value):
    """Return the part of the classes for one field to which a value of the field belongs."""
    for part in parts:
        if part == ("is", value) or (part[0] == "from" and part[1] <= value <= part[2]):
            return part
    return OTHER


def class_of(log, case):
    """Return the class of a case."""
    check_log(log)
    check_case(log.kind, case)
    return tuple([part_of(parts, value) for parts, value in zip(parts_of(log), case)])


def value_in(parts, part):
    """Return a value of a part of the classes for one field."""
    return first_other([word for sign, word in parts[:-1]]) if part == OTHER else part[1]


def is_part(parts, value):
    """Tell whether any value is one of the parts of the classes for one field."""
    # True and False would equal 1 and 0.
    return value in parts and not any([isinstance(item, bool) for item in value])


def case_in(log, value):
    """Return a case of a class."""
    check_log(log)
    columns = parts_of(log)
    if not isinstance(value, tuple) or len(value) != len(columns):
        raise InvalidClass(value)
    for parts, part in zip(columns, value):
        if not is_part(parts, part):
            raise InvalidClass(value)
    return tuple([value_in(parts, part) for parts, part in zip(columns, value)])


def questions_of(table, cases):
    """Return for each of the cases that are asked about in a table the question about it."""
    count = len(table.words)
    return [Question(table, count + at, case) for at, case in enumerate(cases)]


def cases_of_classes(columns):
    """Return a case of each class, in the order of the classes."""
    return choices([[value_in(parts, part) for part in parts] for parts in columns])


def sure_map(log):
    """Return the tuples of a class and the list of the possible answers for its cases."""
    check_log(log)
    check_room(log)
    columns = parts_of(log)
    check_classes(columns)
    cases = cases_of_classes(columns)
    table = Table(log, cases)
    check_left(table.left_in(table.entered))
    found = [question.answers_by(table.entered) for question in questions_of(table, cases)]
    return list(zip(choices(columns), found))


def gained(log, case, answer):
    """Return the classes whose cases are sure if an entry is added to a log, but open without it."""
    check_log(log)
    check_case(log.kind, case)
    check_answer(log.kind, answer)
    if len(log) > MOST_BEFORE_GAINED:
        raise TooMany(18)
    longer = log.inserted(len(log), case, answer)
    columns = parts_of(longer)
    check_classes(columns)
    cases = cases_of_classes(columns)
    table = Table(longer, cases)
    check_left(table.left_in(table.entered))
    before = table.entered >> 1
    found = []
    for value, question in zip(choices(columns), questions_of(table, cases)):
        if len(question.answers_by(table.entered)) == 1 and len(question.answers_by(before)) > 1:
            found.append(value)
    return found
