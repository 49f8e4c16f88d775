"""The interface as a whole: all names, their arguments, and what holds for the whole program."""

import ast
import importlib
import inspect
import pathlib
import random
import unittest

from checks import CheckedCase
from reckoning import drawn_case
from samples_of_values import nested
from seenrules.desk import Desk
from seenrules.errors import InvalidInteger, InvalidLine, InvalidText, NoEntry, SeenError
from seenrules.kinds import Kind
from seenrules.logs import Log
from seenrules.rulelists import RuleList
from seenrules.session import Session
from seenrules.texts import read_history, read_windows
from seenrules.verdicts import possible

PACKAGE = pathlib.Path(__file__).resolve().parent.parent / "seenrules"
# The functions and classes of each file, with their parameters; "*" stands before those that are passed by name.
FUNCTIONS = {
    "values": ["is_integer value low high", "is_word value", "is_number value", "parse_number text", "first_other words"],
    "kinds": ["Kind fields answers * width=1"],
    "meeting": ["meets kind case tests", "strongest kind case", "conditions kind case", "implies kind one other"],
    "rulelists": ["RuleList kind rules"],
    "comparing": ["alike one other", "dead_rules rule_list", "may_swap rule_list index", "shortened rule_list"],
    "logs": ["Log kind entries=()"],
    "stripping": ["strikes log", "rules_for log", "first_wrong rules log"],
    "cores": ["core_of log", "small_core log", "is_core log value"],
    "widths": ["least_width log", "needed_fields log"],
    "verdicts": ["verdict log case", "possible log case", "is_verdict log case value"],
    "maps": ["classes_of log", "class_of log case", "case_in log value", "sure_map log", "gained log case answer"],
    "entailing": ["entails log other", "same_lists one other", "thinned log"],
    "changes": ["fits log * changes=0", "fewest log", "ranges log", "is_history log cuts lists", "are_windows log value"],
    "moments": [
        "verdict_at log at case * changes=0",
        "timeline log case * changes=0",
        "is_verdict_at log at case value * changes=0",
    ],
    "samples": ["all_cases kind values", "sample rule_list values", "learned log rule_list values", "next_question log values"],
    "desk": ["Desk kind * changes=0"],
    "texts": ["history_text history", "read_history kind text", "windows_text windows", "read_windows text"],
    "session": ["Session kind * changes=0"],
}
METHODS = {
    Kind: ["fields", "names", "answers", "kind_of name", "with_width width", "projected names", "is_case value", "is_test value"],
    RuleList: ["rules", "decided_by case", "steps case", "__len__", "__call__ case"],
    Log: [
        "entries",
        "stretch first last",
        "inserted at case answer",
        "without index",
        "replaced index answer",
        "with_width width",
        "projected names",
        "cases",
        "answers_to case",
        "contradictions",
        "__len__",
    ],
    Desk: [
        "log",
        "add case answer",
        "put at case answer",
        "change index answer",
        "remove index",
        "deeds",
        "undo",
        "redo",
        "trial",
        "in_trial work",
        "verdict case * at=None",
        "fits",
        "fewest",
        "ranges",
        "copied",
        "__len__",
    ],
    Session: ["execute line", "execute_all lines", "lines", "desk"],
}
PARSED = {Kind: "text", RuleList: "kind text", Log: "kind text"}
PROPERTIES = {Kind: ["width"], RuleList: ["kind"], Log: ["kind"], Desk: ["kind", "changes"]}
OPERATORS = {Kind: ["__eq__", "__str__"], RuleList: ["__eq__", "__str__", "__getitem__"], Desk: ["__eq__"]}
OPERATORS[Log] = ["__eq__", "__str__", "__getitem__", "__contains__", "__add__"]
PAIR = Kind([("x", "word"), ("y", "word")], ["no", "yes"])


def shown(call, skipped=0):
    """Return the parameters of a callable as they are written above."""
    parts = []
    for parameter in list(inspect.signature(call).parameters.values())[skipped:]:
        if parameter.kind is parameter.KEYWORD_ONLY and "*" not in parts:
            parts.append("*")
        default = "" if parameter.default is parameter.empty else f"={parameter.default}"
        parts.append(parameter.name + default)
    return " ".join(parts)


class NamesTest(unittest.TestCase):
    def test_functions_and_classes(self):
        for file, rows in FUNCTIONS.items():
            module = importlib.import_module(f"seenrules.{file}")
            for row in rows:
                name, *parameters = row.split(" ")
                found = getattr(module, name)
                self.assertEqual((found.__module__, found.__name__), (module.__name__, name))
                self.assertEqual(shown(found), " ".join(parameters), row)

    def test_methods_stand_in_their_class(self):
        for owner, rows in METHODS.items():
            for row in rows:
                name, *parameters = row.split(" ")
                self.assertEqual(shown(vars(owner)[name], 1), " ".join(parameters), row)
        for owner, parameters in PARSED.items():
            self.assertIsInstance(vars(owner)["parse"], classmethod)
            self.assertEqual(shown(owner.parse), parameters)
        for owner, names in PROPERTIES.items():
            for name in names:
                self.assertIsInstance(vars(owner)[name], property)
        for owner, names in OPERATORS.items():
            for name in names:
                self.assertIn(name, vars(owner))

    def test_generators(self):
        for file, name in (("meeting", "conditions"), ("stripping", "strikes"), ("samples", "all_cases")):
            self.assertTrue(inspect.isgeneratorfunction(getattr(importlib.import_module(f"seenrules.{file}"), name)))
        for owner, name in ((RuleList, "steps"), (Log, "contradictions")):
            self.assertTrue(inspect.isgeneratorfunction(vars(owner)[name]))

    def test_nothing_from_outside(self):
        for path in PACKAGE.glob("*.py"):
            for node in ast.walk(ast.parse(path.read_text("utf-8"))):
                self.assertNotIsInstance(node, ast.Import)
                if isinstance(node, ast.ImportFrom):
                    self.assertTrue(node.module.startswith("seenrules."), path.name)
                if isinstance(node, ast.Name):
                    self.assertNotIn(node.id, ("open", "input", "print", "eval", "exec", "__import__"), path.name)


class LimitsTest(CheckedCase):
    def test_integers_of_thirty_digits(self):
        log = Log(PAIR, [(("a", "c"), "yes")])
        desk = Desk(PAIR)
        for value in (10**30 - 1, 1 - 10**30):
            self.assert_raises_holding(NoEntry, value, log.without, value)
            self.assert_raises_holding(InvalidInteger, value, log.stretch, value, 0)
            self.assert_raises_holding(InvalidInteger, value, desk.put, value, None, None)
            self.assert_raises_holding(NoEntry, value, desk.remove, value)
            self.assert_raises_holding(InvalidInteger, value, desk.verdict, None, at=value)

    def test_long_texts(self):
        kind = Kind([("abcdef", "word")], ["answer", "anothr"], width=2)
        for text in ("a" * 4000, "answer\n" * 571, "a " * 2000, "\n" * 4000, "from 0\n" * 571, "0 1\n" * 1000, "9" * 4000, "-" * 4000):
            for call in (Kind.parse, read_windows):
                self.assert_raises_holding(InvalidText, text, call, text)
            for call in (RuleList.parse, Log.parse, read_history):
                self.assert_raises_holding(InvalidText, text, call, kind, text)
            session = Session(kind)
            for line in (text, "add " + text[:3990], "ask " + text[:3990], "remove " + text[:3990]):
                self.assert_raises_holding(InvalidLine, line, session.execute, line)

    def test_deep_and_long_values(self):
        values = [nested(6), [nested(5)] * 110, {str(at): nested(5) for at in range(110)}, tuple([nested(5)] * 110), "~" * 200]
        log = Log(PAIR)
        for file, rows in FUNCTIONS.items():
            module = importlib.import_module(f"seenrules.{file}")
            for row in rows:
                name, *parameters = [part for part in row.split(" ") if "=" not in part and part != "*"]
                call = getattr(module, name)
                if name not in ("is_integer", "is_word", "is_number", "parse_number"):
                    for value in values:
                        with self.assertRaises(SeenError) as caught:
                            found = call(*[value] * len(parameters))
                            list(found)
                        self.assertIs(caught.exception.value, value)
        for value in values:
            self.assertIs(value in log, False)
            self.assertIs(PAIR.is_case(value), False)

    def test_300_operations(self):
        desk, session = Desk(PAIR), Session(PAIR)
        draw = random.Random(4)
        for at in range(100):
            case = drawn_case(draw, PAIR)
            desk.add(case, "no")
            session.execute(f"add {' '.join(case)} -> no")
            self.assertEqual(desk.verdict(case)[0], "sure")
            if at % 2:
                desk.undo(), desk.undo()
                session.execute_all(["undo", "undo"])
        self.assertEqual([session.desk(), len(desk)], [desk, 0])
        self.assertEqual(possible(desk.log(), ("a", "b")), ["no", "yes"])


if __name__ == "__main__":
    unittest.main()
