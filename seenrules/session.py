"""Sessions: lines of text that are executed on a desk."""

from seenrules.cores import check_explained, core_of
from seenrules.desk import Desk
from seenrules.errors import InvalidLine
from seenrules.stripping import rules_for
from seenrules.values import is_list, parse_number
from seenrules.widths import least_width
from seenrules.writing import entry_text, read_case, read_entry


def deed_text(deed):
    """Return the line of a deed."""
    if deed[0] == "add":
        return f"add {entry_text(deed[1:])}"
    if deed[0] == "put":
        return f"put {deed[1]} {entry_text(deed[2:])}"
    return " ".join([str(part) for part in deed])


def verdict_text(found):
    """Return the text of a verdict at a moment: its word and the possible answers."""
    word, histories, windows = found
    return " ".join([word, *list(histories)])


def add_line(desk, parts):
    """Execute add with the parts behind it, or return None if they do not fit; so do the next five functions."""
    entry = read_entry(desk.kind, " ".join(parts))
    return None if entry is None else [str(desk.add(entry[0], entry[1]))]


def put_line(desk, parts):
    """Execute put with the parts behind it."""
    at = parse_number(parts[0]) if parts else None
    entry = read_entry(desk.kind, " ".join(parts[1:]))
    if at is None or entry is None:
        return None
    desk.put(at, entry[0], entry[1])
    return []


def change_line(desk, parts):
    """Execute change with the parts behind it."""
    index = parse_number(parts[0]) if len(parts) == 2 else None
    if index is None or parts[1] not in desk.kind.answers():
        return None
    return [desk.change(index, parts[1])]


def remove_line(desk, parts):
    """Execute remove with the parts behind it."""
    index = parse_number(parts[0]) if len(parts) == 1 else None
    return None if index is None else [entry_text(desk.remove(index))]


def ask_line(desk, parts):
    """Execute ask with the parts behind it."""
    case = read_case(desk.kind, parts)
    return None if case is None else [verdict_text(desk.verdict(case))]


def moment_line(desk, parts):
    """Execute moment with the parts behind it."""
    at = parse_number(parts[0]) if parts else None
    case = read_case(desk.kind, parts[1:])
    return None if at is None or case is None else [verdict_text(desk.verdict(case, at=at))]


def undo_line(desk):
    """Execute undo."""
    return [deed_text(desk.undo())]


def redo_line(desk):
    """Execute redo."""
    return [deed_text(desk.redo())]


def log_line(desk):
    """Return the entries."""
    return [entry_text(entry) for entry in desk.log().entries()]


def fits_line(desk):
    """Return whether the entries fit."""
    return [desk.fits()[0]]


def fewest_line(desk):
    """Return the fewest changes."""
    return [str(desk.fewest()[0])]


def ranges_line(desk):
    """Return the ranges of the cuts."""
    return [f"{first} {last}" for first, last in desk.ranges()]


def width_line(desk):
    """Return the least width."""
    found = least_width(desk.log())
    return ["none"] if found[0] == "none" else [str(found[1])]


def core_line(desk):
    """Return the greatest core."""
    core = core_of(desk.log())
    return [" ".join([str(index) for index in core])] if core else []


def rules_line(desk):
    """Return the lines of a rule list that explains the entries."""
    check_explained(desk.log())
    return str(rules_for(desk.log())).split("\n")


WITH_PARTS = {
    "add": add_line,
    "put": put_line,
    "change": change_line,
    "remove": remove_line,
    "ask": ask_line,
    "moment": moment_line,
}
ALONE = {
    "undo": undo_line,
    "redo": redo_line,
    "log": log_line,
    "fits": fits_line,
    "fewest": fewest_line,
    "ranges": ranges_line,
    "width": width_line,
    "core": core_line,
    "rules": rules_line,
}


def result_of(desk, line):
    """Execute any value on a desk, if it is a line, and return the result."""
    if not isinstance(line, str):
        raise InvalidLine(line)
    if line in ALONE:
        action = ALONE[line]
        return action(desk)
    word, *parts = line.split(" ")
    if word not in WITH_PARTS:
        raise InvalidLine(line)
    work = WITH_PARTS[word]
    result = work(desk, parts)
    if result is None:
        raise InvalidLine(line)
    return result


class Session:
    """A desk and the lines that were executed on it."""

    def __init__(self, kind, *, changes=0):
        self.own_desk = Desk(kind, changes=changes)
        self.own_lines = []

    def execute(self, line):
        """Execute a line and return the list of strings that is its result."""
        result = result_of(self.own_desk, line)
        self.own_lines.append(line)
        return result

    def execute_all(self, lines):
        """Execute all lines of a list, or none if one of them raises an exception; return the list of the results."""
        if not is_list(lines):
            raise InvalidLine(lines)
        with self.own_desk.trial():
            results = [result_of(self.own_desk, line) for line in lines]
        self.own_lines.extend(list(lines))
        return results

    def lines(self):
        """Return the list of all lines that were executed without an exception."""
        return list(self.own_lines)

    def desk(self):
        """Return a copy of the desk."""
        return self.own_desk.copied()
