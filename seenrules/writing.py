"""The texts of cases, entries, tests and rules, and how they are read.

A function that reads returns None for what cannot be read.
"""

from seenrules.values import parse_number

ARROW = "->"


def read_value(sort, text):
    """Return the value of a field that a text stands for, whether it is valid or not."""
    return text if sort == "word" else parse_number(text)


def read_case(kind, parts):
    """Return the case whose values a list of strings shows."""
    fields = kind.fields()
    if len(parts) != len(fields):
        return None
    case = tuple([read_value(field[1], part) for field, part in zip(fields, parts)])
    return case if kind.is_case(case) else None


def read_entry(kind, text):
    """Return the entry that a text shows."""
    parts = text.split(" ")
    if len(parts) < 2 or parts[-2] != ARROW or parts[-1] not in kind.answers():
        return None
    case = read_case(kind, parts[:-2])
    return None if case is None else (case, parts[-1])


def entry_text(entry):
    """Return the text of an entry."""
    case, answer = entry
    return " ".join([*[str(value) for value in case], ARROW, answer])


def read_test(kind, parts):
    """Return the test that three strings show."""
    name, operator, shown = parts
    if name not in kind.names():
        return None
    test = (name, operator, read_value(kind.kind_of(name), shown))
    return test if kind.is_test(test) else None


def read_tests(kind, parts):
    """Return the list of tests that some strings show, with "and" between the tests."""
    # The places count, not the words: a field or a value may be called "and", too.
    if len(parts) % 4 != 3 or not all([part == "and" for part in parts[3::4]]):
        return None
    tests = [read_test(kind, parts[at : at + 3]) for at in range(0, len(parts), 4)]
    return None if None in tests else tests


def read_rule(kind, text):
    """Return the rule that a text shows; it may have too many tests, or a wrong answer."""
    parts = text.split(" ")
    if len(parts) == 1:
        return ([], text)
    tests = read_tests(kind, parts[2:]) if parts[1] == "if" else None
    return None if tests is None else (tests, parts[0])


def rule_text(rule):
    """Return the text of a rule."""
    tests, answer = rule
    shown = " and ".join([f"{name} {operator} {value}" for name, operator, value in tests])
    return f"{answer} if {shown}" if shown else answer
