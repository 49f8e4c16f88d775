import random
import unittest

from checks import CheckedCase
from reckoning import drawn_case, explains, greatest_core, kinds
from reckoning_changes import are_windows_of
from samples_of_logs import BARE, CORNER, FIVE, NO_LOGS, PAIR, TWO
from samples_of_texts import with_one_character_otherwise
from samples_of_values import NEVER_VALID
from seenrules.changes import fewest, ranges
from seenrules.cores import core_of
from seenrules.desk import Desk
from seenrules.errors import (
    AbsentError,
    DoesNotFit,
    InvalidInteger,
    InvalidKind,
    InvalidLine,
    NoEntry,
    NothingToRedo,
    NothingToUndo,
    SeenError,
    StateError,
    TooMany,
)
from seenrules.kinds import Kind
from seenrules.rulelists import RuleList
from seenrules.session import Session
from seenrules.values import parse_number
from seenrules.widths import least_width

NEVER_KINDS = [value for value in NEVER_VALID if not isinstance(value, Kind)] + [value for value in NO_LOGS if value != PAIR]
MIXED = Kind([("x", "word"), ("n", "number")], TWO)
THREE_FIELDS = Kind([("x", "word"), ("n", "number"), ("y", "word")], ["no", "yes", "undo"], width=2)
ALONE = ["undo", "redo", "log", "fits", "fewest", "ranges", "width", "core", "rules"]


def is_line(kind, line):
    """Tell whether a string is a line for a kind, by its parts."""
    word, *parts = line.split(" ")
    if word in ALONE:
        return not parts

    def is_case(some):
        if len(some) != len(kind.names()):
            return False
        read = [part if sort == "word" else parse_number(part) for (name, sort), part in zip(kind.fields(), some)]
        return kind.is_case(tuple(read))

    def is_entry(some):
        return len(some) >= 2 and some[-2] == "->" and some[-1] in kind.answers() and is_case(some[:-2])

    if word in ("put", "moment", "change", "remove"):
        if not parts or parse_number(parts[0]) is None:
            return False
        rest = parts[1:]
        return {"put": is_entry(rest), "moment": is_case(rest), "change": len(rest) == 1 and rest[0] in kind.answers(), "remove": not rest}[word]
    return {"add": is_entry, "ask": is_case}.get(word, lambda some: False)(parts)


def seen(session):
    """Return what can be seen of a session."""
    desk = session.desk()
    undone = []
    while True:
        try:
            undone.append(desk.redo())
        except NothingToRedo:
            return [session.lines(), session.desk().log(), session.desk().deeds(), undone]


class SessionCase(CheckedCase):
    def run_lines(self, session, *pairs):
        """Execute lines one by one and compare the results."""
        for line, expected in pairs:
            found = session.execute(line)
            self.assertEqual((line, found), (line, expected))
            self.assertEqual({type(item) for item in (found, *found)} | {list}, {list, str} if found else {list})

    def assert_refused(self, session, error_class, line):
        """Check that a line raises just this class and changes nothing; return the exception."""
        before = seen(session)
        with self.assertRaises(error_class) as caught:
            session.execute(line)
        self.assertIs(type(caught.exception), error_class)
        self.assertEqual(seen(session), before)
        return caught.exception

    def check_again(self, session, changes):
        """Check that a new session with the same lines has an equal desk with the same deeds."""
        other = Session(session.desk().kind, changes=changes)
        for line in session.lines():
            other.execute(line)
        self.assertEqual([other.desk(), seen(other)], [session.desk(), seen(session)])


class ExecuteTest(SessionCase):
    def test_example(self):
        session = Session(MIXED)
        lines = ["add a 1 -> yes", "add a 1 -> no", "core", "fewest", "ranges", "undo", "ask b 7"]
        results = session.execute_all(lines)
        self.assertEqual(results, [["0"], ["1"], ["0 1"], ["1"], ["1 1"], ["add a 1 -> no"], ["open no yes"]])
        found = [session.execute("change 0 no"), session.execute("width"), session.execute("log"), len(session.lines())]
        self.assertEqual(found, [["yes"], ["0"], ["a 1 -> no"], 10])
        self.assert_raises_holding(InvalidLine, "ask b 07", session.execute, "ask b 07")
        self.check_again(session, 0)

    def test_deeds(self):
        session = Session(THREE_FIELDS)
        self.run_lines(
            session,
            ("log", []),
            ("add a -1 b -> yes", ["0"]),
            ("add undo 9999 log -> undo", ["1"]),
            ("put 0 z 0 z -> no", []),
            ("put 3 z -9999 z -> no", []),
            ("log", ["z 0 z -> no", "a -1 b -> yes", "undo 9999 log -> undo", "z -9999 z -> no"]),
            ("change 3 undo", ["no"]),
            ("remove 1", ["a -1 b -> yes"]),
            ("undo", ["remove 1"]),
            ("undo", ["change 3 undo"]),
            ("undo", ["put 3 z -9999 z -> no"]),
            ("redo", ["put 3 z -9999 z -> no"]),
            ("redo", ["change 3 undo"]),
            ("undo", ["change 3 undo"]),
            ("undo", ["put 3 z -9999 z -> no"]),
            ("undo", ["put 0 z 0 z -> no"]),
            ("undo", ["add undo 9999 log -> undo"]),
            ("redo", ["add undo 9999 log -> undo"]),
            ("log", ["a -1 b -> yes", "undo 9999 log -> undo"]),
        )
        self.check_again(session, 0)

    def test_no_fields(self):
        session = Session(BARE, changes=1)
        self.run_lines(
            session,
            ("ask", ["open a b"]),
            ("moment 0", ["open a b"]),
            ("add -> a", ["0"]),
            ("put 0 -> b", []),
            ("ask", ["sure a"]),
            ("moment 0", ["sure b"]),
            ("moment 1", ["open a b"]),
            ("log", ["-> b", "-> a"]),
            ("fits", ["fits"]),
            ("fewest", ["1"]),
            ("ranges", ["1 1"]),
            ("width", ["none"]),
            ("core", ["0 1"]),
            ("remove 0", ["-> b"]),
            ("undo", ["remove 0"]),
            ("undo", ["put 0 -> b"]),
            ("rules", ["a"]),
            ("width", ["0"]),
            ("core", []),
            ("ranges", []),
            ("change 0 b", ["a"]),
            ("undo", ["change 0 b"]),
            ("redo", ["change 0 b"]),
        )
        self.check_again(session, 1)

    def test_questions(self):
        session = Session(PAIR)
        for case, answer in CORNER.entries():
            session.execute(f"add {' '.join(case)} -> {answer}")
        self.run_lines(session, ("ask b d", ["sure no"]), ("moment 1 b d", ["sure no"]), ("ask z z", ["open no yes"]), ("fits", ["fits"]))
        rules = RuleList.parse(PAIR, "\n".join(session.execute("rules")))
        self.assertTrue(explains(rules, CORNER))
        session.execute("add b d -> yes")
        self.run_lines(session, ("fits", ["stuck"]), ("fewest", ["1"]), ("ranges", ["1 3"]), ("core", ["0 1 2 3"]), ("width", ["2"]))

    def test_drawn_rows(self):
        draw = random.Random(132)
        for kind in [*kinds(TWO), *kinds(FIVE)]:
            changes = draw.choice((0, 0, 1, 3))
            session, desk = Session(kind, changes=changes), Desk(kind, changes=changes)
            for step in range(12):
                self.compare(draw, session, desk)
            self.check_again(session, changes)
            self.assertEqual(session.desk(), desk)
            self.assertEqual(session.desk().deeds(), desk.deeds())

    def compare(self, draw, session, desk):
        """Execute a drawn line and compare it with the call on a desk."""
        kind, log = desk.kind, desk.log()
        case, answer, at = drawn_case(draw, kind), draw.choice(kind.answers()), draw.randint(0, len(desk))
        shown = "".join(f"{value} " for value in case)
        core = greatest_core(kind, log.entries())
        fitting = fewest(log)[0] <= desk.changes
        works = [
            (f"add {shown}-> {answer}", lambda: [str(desk.add(case, answer))]),
            (f"put {at} {shown}-> {answer}", lambda: desk.put(at, case, answer) or []),
            ("fits", lambda: ["fits" if fitting else "stuck"]),
            ("fewest", lambda: [str(fewest(log)[0])]),
            ("ranges", lambda: [f"{first} {last}" for first, last in ranges(log)]),
            ("core", lambda: [" ".join(map(str, core))] if core else []),
            ("width", lambda: [str(least_width(log)[1]) if least_width(log)[0] == "width" else "none"]),
        ]
        if at < len(desk):
            works.append((f"change {at} {answer}", lambda: [desk.change(at, answer)]))
            works.append((f"remove {at}", lambda: [str(log.stretch(at, at + 1))] * (desk.remove(at) == log[at])))
        if fitting:
            works.append((f"ask {shown}".strip(), lambda: [" ".join([desk.verdict(case)[0], *desk.verdict(case)[1]])]))
            works.append((f"moment {at} {shown}".strip(), lambda: [" ".join([desk.verdict(case, at=at)[0], *desk.verdict(case, at=at)[1]])]))
        line, work = draw.choice(works)
        self.run_lines(session, (line, work()))
        self.assertEqual([session.lines()[-1], session.desk().log()], [line, desk.log()])

    def test_what_the_desk_raises(self):
        session = Session(MIXED)
        self.assert_refused(session, NothingToUndo, "undo")
        self.assert_refused(session, NothingToRedo, "redo")
        for line, error_class, value in (
            ("remove 0", NoEntry, 0),
            ("remove -1", NoEntry, -1),
            ("change 9999 no", NoEntry, 9999),
            ("put 1 a 1 -> no", InvalidInteger, 1),
            ("put -1 a 1 -> no", InvalidInteger, -1),
            ("moment 1 a 1", InvalidInteger, 1),
            ("moment -9999 a 1", InvalidInteger, -9999),
        ):
            self.assertEqual(self.assert_refused(session, error_class, line).value, value)
        for at in range(16):
            session.execute(f"add a 1 -> {TWO[at % 2]}")
        for line in ("add a 1 -> no", "put 16 a 1 -> no"):
            self.assertEqual(self.assert_refused(session, TooMany, line).count, 17)
        for line in ("ask a 1", "moment 3 b 2"):
            evidence = self.assert_refused(session, DoesNotFit, line).evidence
            self.assertTrue(are_windows_of(session.desk().log(), evidence) and len(evidence) == 1)
        core = self.assert_refused(session, DoesNotFit, "rules").evidence
        self.assertTrue(are_windows_of(session.desk().log(), [core]))

    def test_rules_raise_whatever_changes_are_allowed(self):
        session = Session(BARE, changes=16)
        session.execute_all(["add -> a", "add -> b"])
        self.assertEqual(self.assert_refused(session, DoesNotFit, "rules").evidence, core_of(session.desk().log()))
        self.run_lines(session, ("ask", ["open a b"]), ("fits", ["fits"]))

    def test_results_are_new(self):
        session = Session(MIXED)
        session.execute("add a 1 -> no").clear()
        session.execute("log").clear()
        session.lines().clear()
        session.desk().undo()
        self.assertEqual([session.execute(line="log"), session.lines()], [["a 1 -> no"], ["add a 1 -> no", "log", "log"]])

    def test_300_lines(self):
        session = Session(MIXED)
        for at in range(100):
            session.execute_all(["add a 1 -> no", "change 0 yes", "remove 0"])
        self.assertEqual([len(session.lines()), len(session.desk().deeds())], [300, 300])

    def test_wrong_arguments(self):
        for value in NEVER_KINDS:
            self.assert_raises_holding(InvalidKind, value, Session, value, changes=None)
        for value in [*NEVER_VALID, -1, 17, "0", [0], CORNER]:
            self.assert_raises_holding(InvalidInteger, value, Session, PAIR, changes=value)
        self.assertRaises(TypeError, Session, PAIR, 1)
        self.assertEqual(Session(changes=2, kind=PAIR).desk().changes, 2)


class LinesTest(SessionCase):
    def lines_for(self, kind):
        """Return one line of each form."""
        case = " ".join("ab" if sort == "word" else "-12" for name, sort in kind.fields())
        entry = f"{case} -> {kind.answers()[-1]}".strip()
        lines = [*ALONE, f"add {entry}", f"put 0 {entry}", f"change 0 {kind.answers()[0]}", "remove 0", f"ask {case}".strip(), f"moment 0 {case}".strip()]
        self.assertTrue(all(is_line(kind, line) for line in lines))
        return lines

    def check_line(self, kind, line):
        session = Session(kind)
        session.execute(self.lines_for(kind)[len(ALONE)])
        before = seen(session)
        if not is_line(kind, line):
            self.assert_raises_holding(InvalidLine, line, session.execute, line)
            self.assertEqual(seen(session), before)
            return
        try:
            session.execute(line)
        except (SeenError, AbsentError, StateError) as error:
            self.assertNotIsInstance(error, InvalidLine)

    def test_words_more_less_or_otherwise(self):
        for kind in (BARE, THREE_FIELDS):
            for line in self.lines_for(kind):
                parts = line.split(" ")
                for at in range(len(parts) + 1):
                    self.check_line(kind, " ".join(parts[:at] + parts[at + 1 :]))
                    for other in ("a", "yes", "no", "0", "-1", "->", "", "log", "00", "10000", "abcdefg", "A", *parts):
                        self.check_line(kind, " ".join(parts[:at] + [other] + parts[at:]))
                        self.check_line(kind, " ".join(parts[:at] + [other] + parts[at + 1 :]))

    def test_characters_otherwise(self):
        for kind in (BARE, MIXED):
            for line in self.lines_for(kind):
                for other in with_one_character_otherwise(line):
                    self.check_line(kind, other)

    def test_no_lines(self):
        for kind in (BARE, MIXED, THREE_FIELDS):
            session = Session(kind)
            wrong = ["Log", "log ", " log", "log\n", "\nlog", "logs", "log log", "undo 1", "fits 0", "add", "add ", "put", "put ", "moment", "change", "remove", "ask\n", "desk", "lines", "trial", "-> no"]
            for value in [*NEVER_VALID, *wrong, 0, ["log"], ("log",), {"log": 1}, session, b"log"]:
                self.assert_raises_holding(InvalidLine, value, session.execute, value)
            self.assertEqual(session.lines(), [])


class ExecuteAllTest(SessionCase):
    def test_no_line(self):
        session = Session(MIXED)
        self.assertEqual([session.execute_all([]), session.execute_all(()), session.lines()], [[], [], []])

    def test_tuples_and_lists(self):
        session = Session(MIXED)
        self.assertEqual(session.execute_all(("add a 1 -> no", "log")), [["0"], ["a 1 -> no"]])
        lines = ["undo", "redo"]
        self.assertEqual(session.execute_all(lines=lines), [["add a 1 -> no"]] * 2)
        lines.clear()
        self.assertEqual(session.lines(), ["add a 1 -> no", "log", "undo", "redo"])

    def test_a_line_that_raises_at_each_place(self):
        good = ["undo", "add b 2 -> yes", "put 0 c 3 -> no", "change 0 yes", "remove 1", "log"]
        for wrong, error_class in (
            ("ask", InvalidLine),
            (None, InvalidLine),
            (["log"], InvalidLine),
            ("remove 9", NoEntry),
            ("redo", NothingToRedo),
            ("put 99 a 1 -> no", InvalidInteger),
        ):
            for at in range(1 if wrong == "redo" else 0, len(good) + 1):
                session = Session(MIXED)
                session.execute_all(["add a 1 -> no", "add a 2 -> no", "add a 3 -> no", "undo"])
                before = seen(session)
                lines = [*good[:at], wrong, *good[at:]]
                if wrong == "redo":
                    lines[at:at] = ["add a 1 -> no"]
                with self.assertRaises(error_class) as caught:
                    session.execute_all(lines)
                if error_class is InvalidLine:
                    self.assertIs(caught.exception.value, wrong)
                self.assertEqual(seen(session), before)
                self.assertEqual(session.execute("redo"), ["add a 3 -> no"])

    def test_evidence(self):
        session = Session(BARE)
        with self.assertRaises(DoesNotFit) as caught:
            session.execute_all(["add -> a", "add -> b", "rules"])
        self.assertEqual([caught.exception.evidence, seen(session)[0], len(session.desk())], [[0, 1], [], 0])

    def test_no_lists(self):
        session = Session(MIXED)
        session.execute("add a 1 -> no")
        before = seen(session)
        for value in [*NEVER_VALID, 0, "log", {"log": 1}, {0: "log"}, CORNER, session]:
            if isinstance(value, (list, tuple)):
                expected = value[0]
                self.assert_raises_holding(InvalidLine, expected, session.execute_all, value)
            else:
                self.assert_raises_holding(InvalidLine, value, session.execute_all, value)
            self.assertEqual(seen(session), before)

    def test_results_are_new(self):
        session = Session(MIXED)
        results = session.execute_all(["add a 1 -> no", "log", "log"])
        results[1].clear()
        self.assertEqual([results[2], session.execute("log")], [["a 1 -> no"]] * 2)

    def test_110_lines(self):
        session = Session(MIXED)
        results = session.execute_all(["add a 1 -> no", "undo"] * 55)
        self.assertEqual([len(results), len(session.lines()), len(session.desk())], [110, 110, 0])


class DeskTest(SessionCase):
    def test_a_copy(self):
        session = Session(MIXED, changes=2)
        session.execute_all(["add a 1 -> no", "add a 2 -> no", "undo"])
        desk = session.desk()
        self.assertEqual([type(desk), desk.changes, desk.kind, len(desk), desk.deeds()], [Desk, 2, MIXED, 1, [("add", ("a", 1), "no")]])
        self.assertEqual(desk.redo(), ("add", ("a", 2), "no"))
        desk.remove(0)
        self.assertEqual([session.execute("log"), session.execute("redo")], [["a 1 -> no"], ["add a 2 -> no"]])
        self.assertIsNot(session.desk(), session.desk())


if __name__ == "__main__":
    unittest.main()
