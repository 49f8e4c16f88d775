"""The texts of histories and windows, and how they are read."""

from seenrules.changes import MOST_CHANGES, are_cuts
from seenrules.errors import InvalidHistory, InvalidText, InvalidWindows
from seenrules.kinds import check_kind
from seenrules.known import Known
from seenrules.rulelists import RuleList, read_rules
from seenrules.values import is_integer, is_list, parse_number

LARGEST_INDEX = 16


def are_lists(value):
    """Tell whether any value is a list of rule lists of equal kinds."""
    if not is_list(value) or not all([isinstance(item, RuleList) for item in value]):
        return False
    return all([item.kind == value[0].kind for item in value])


def check_history(value):
    """Raise InvalidHistory for any value that is not a tuple of cuts and of one rule list more."""
    if not isinstance(value, tuple) or len(value) != 2:
        raise InvalidHistory(value)
    cuts, lists = value
    if not are_cuts(MOST_CHANGES + 1, cuts) or not are_lists(lists) or len(lists) != len(cuts) + 1:
        raise InvalidHistory(value)


def history_text(history):
    """Return the text of a history."""
    check_history(history)
    cuts, lists = history
    return "\n".join([f"from {start}\n{rule_list}" for start, rule_list in zip([0, *cuts], lists)])


def read_start(line):
    """Return the number that a line shows behind "from", or None for any other line."""
    parts = line.split(" ")
    # No line of a rule has two parts.
    return parse_number(parts[1]) if len(parts) == 2 and parts[0] == "from" else None


def read_blocks(text):
    """Return the list of the starts that a text shows, and that of the lists of the lines behind each."""
    starts = []
    blocks = []
    for line in text.split("\n"):
        start = read_start(line)
        if start is not None:
            starts.append(start)
            blocks.append([])
        elif len(blocks) == 0:
            return ([], [])
        else:
            blocks[-1].append(line)
    return (starts, blocks)


def read_history(kind, text):
    """Return the cuts and the rule lists of a kind that a text shows."""
    check_kind(kind)
    starts, blocks = read_blocks(text) if isinstance(text, str) else ([], [])
    lists = [read_rules(kind, lines) for lines in blocks]
    if starts[:1] != [0] or not are_cuts(MOST_CHANGES + 1, starts[1:]) or None in lists:
        raise InvalidText(text)
    return (starts[1:], [RuleList(kind, Known(rules)) for rules in lists])


def is_window(value):
    """Tell whether any value is a list of one or more ascending indexes."""
    if not is_list(value) or len(value) == 0 or not all([is_integer(item, 0, LARGEST_INDEX) for item in value]):
        return False
    return all([one < other for one, other in zip(value, value[1:])])


def are_window_lists(value):
    """Tell whether any value is a list of one or more lists of indexes."""
    return is_list(value) and len(value) > 0 and all([is_window(item) for item in value])


def windows_text(windows):
    """Return the text of a list of lists of indexes."""
    if not are_window_lists(windows):
        raise InvalidWindows(windows)
    return "\n".join([" ".join([str(index) for index in window]) for window in windows])


def read_windows(text):
    """Return the list of the lists of indexes that a text shows."""
    lines = text.split("\n") if isinstance(text, str) else []
    windows = [[parse_number(part) for part in line.split(" ")] for line in lines]
    if not are_window_lists(windows):
        raise InvalidText(text)
    return windows
