import itertools
import random
import unittest

from checks import CheckedCase
from reckoning import are_core, drawn_rules, drawn_value, explained, is_entailed, kinds
from samples_of_logs import BARE, CORNER, FIVE, NO_LOGS, PAIR, SQUARE, TWO, drawn_logs, logs_of_lists
from samples_of_values import NEVER_VALID
from seenrules.errors import DoesNotFit, InvalidKind, InvalidList, InvalidLog, InvalidValues, OtherKind
from seenrules.kinds import Kind
from seenrules.logs import Log
from seenrules.rulelists import RuleList
from seenrules.samples import all_cases, learned, next_question, sample
from seenrules.verdicts import possible

NEVER_KINDS = [value for value in NEVER_VALID if not isinstance(value, Kind)]
NEVER_LISTS = [value for value in NEVER_VALID if not isinstance(value, RuleList)] + NO_LOGS + [CORNER]
NEVER_LOGS = [value for value in NEVER_VALID if not isinstance(value, Log)] + NO_LOGS
RULES = RuleList.parse(PAIR, "no if x is b\nno if y is d\nyes")
VALUES = {"y": ["c", "d"], "x": ["a", "b"]}
FULL = Log(PAIR, [(("a", "c"), "yes")] * 17)
MIXED = Kind([("x", "word"), ("n", "number")], TWO)


def drawn_values(draw, kind):
    """Return values for a kind, with a product of at most 16."""
    lengths = draw.choice([(1, 1, 1, 1), (2, 2, 2, 2), (4, 2, 2, 1), (4, 4, 1, 1), (3, 5, 1, 1), (2, 1, 2, 3), (0, 2, 3, 2), (8, 2, 1, 1), (9, 1, 1, 1)])
    columns = {}
    for (name, sort), length in zip(kind.fields(), draw.sample(lengths, 4)):
        column = []
        while len(column) < length:
            value = drawn_value(draw, sort) if len(column) < 4 else (draw.randint(-99, 99) if sort == "number" else "v" + "abcdefgh"[len(column) - 4])
            column += [value] if value not in column else []
        columns[name] = column
    return dict(draw.sample(sorted(columns.items()), len(columns)))


def plain_cases(kind, values):
    """Return all cases of values in the order of the document."""
    return list(itertools.product(*[values[name] for name in kind.names()]))


def wrong_values():
    """Return values that are none for the kind of words x and numbers n."""
    words, numbers = ["a", "b"], [1, 2]
    wrong = [{}, {"x": words}, {"n": numbers}, {"x": words, "n": numbers, "z": []}, {"x": words, "n": numbers, 1: []}, {"x": words, "y": numbers}]
    wrong += [{"x": words, 1: numbers}, [("x", words), ("n", numbers)], [words, numbers], (words, numbers), "x n", ("x", "n"), ["x", "n"]]
    wrong += [{"x": value, "n": numbers} for value in (["a", "a"], ["a", 1], ["A"], [""], [None], "ab", "a", {"a": 1}, None, 1, [["a"]], [words], [True])]
    wrong += [{"x": words, "n": value} for value in ([1, 1], [1, True], [False], ["1"], [10000], [-10000], [None], 1, {1: 2}, "12", [numbers], [1.5])]
    wrong += [{"x": ["a"], "n": list(range(17))}, {"x": ["a" * at for at in range(1, 6)], "n": [1, 2, 3, 4]}, {"x": words, "n": list(range(9))}]
    wrong += [{"x": ["A"], "n": []}, {"x": [], "n": [1, 1]}, {"x": [], "n": [True]}, {"x": words * 50, "n": []}]
    return wrong


class SampleCase(CheckedCase):
    def check_evidence(self, log, call, *arguments):
        with self.assertRaises(DoesNotFit) as caught:
            call(*arguments)
        evidence = caught.exception.evidence
        self.assertEqual(evidence, sorted(set(evidence)))
        self.assertTrue(are_core(log.kind, log.entries(), frozenset(evidence)))

    def check_values(self, call, *behind):
        """Check the refusals of wrong values behind some arguments of the kind of x and n."""
        for value in [*NEVER_VALID, *wrong_values(), 0, [], (), MIXED, CORNER]:
            self.assert_raises_holding(InvalidValues, value, call, *behind, value)


class AllCasesTest(SampleCase):
    def test_example(self):
        self.assertEqual(list(all_cases(PAIR, VALUES)), [("a", "c"), ("a", "d"), ("b", "c"), ("b", "d")])

    def test_drawn_values(self):
        draw = random.Random(111)
        counts = set()
        for kind in kinds() * 4:
            values = drawn_values(draw, kind)
            found = list(all_cases(kind, values))
            self.assertEqual(found, plain_cases(kind, values))
            self.assertTrue(all(kind.is_case(case) for case in found))
            counts.add(len(found))
        self.assertTrue({0, 1, 16} <= counts)

    def test_products(self):
        self.assertEqual(list(all_cases(BARE, {})), [()])
        for words, numbers in (([], [1]), (["a"], []), ([], []), ((), list(range(110))), (["a" * at for at in range(1, 7)], ())):
            self.assertEqual(list(all_cases(MIXED, {"x": words, "n": numbers})), [])
        for words, numbers in ((("a",), range(16)), ("abcd", range(4)), ("ab", range(-9999, -9991)), ("abcdefgh", (9999, -9999))):
            self.assertEqual(len(list(all_cases(MIXED, {"n": tuple(numbers), "x": list(words)}))), 16)
        four = Kind([(name, "number") for name in "abcd"], TWO)
        long = list(range(110))
        self.assertEqual(list(all_cases(four, {"a": long, "b": long, "c": long, "d": []})), [])

    def test_order(self):
        values = {"n": [3, -1, 2], "x": ["z", "a"]}
        self.assertEqual(list(all_cases(MIXED, values)), [("z", 3), ("z", -1), ("z", 2), ("a", 3), ("a", -1), ("a", 2)])
        self.assertEqual(list(all_cases(MIXED, dict(reversed(values.items())))), list(all_cases(values=values, kind=MIXED)))

    def test_values_may_be_changed_meanwhile(self):
        values = {"y": ["c", "d"], "x": ["a", "b"]}
        generator = all_cases(PAIR, values)
        first = next(generator)
        values["x"].clear()
        values.clear()
        self.assertEqual([first, *generator], list(all_cases(PAIR, VALUES)))

    def test_two_at_once(self):
        one, other = all_cases(PAIR, VALUES), all_cases(PAIR, VALUES)
        self.assertEqual(list(zip(one, other)), [(case, case) for case in plain_cases(PAIR, VALUES)])

    def test_wrong_arguments(self):
        for value in NEVER_KINDS:
            self.assert_raises_holding(InvalidKind, value, next, all_cases(value, None))
        for value in [*NEVER_VALID, *wrong_values()]:
            self.assert_raises_holding(InvalidValues, value, next, all_cases(MIXED, value))
        for value in [value for value in NEVER_VALID if value != {}]:
            self.assert_raises_holding(InvalidValues, value, next, all_cases(BARE, value))


class EnoughTest(SampleCase):
    def check(self, rule_list, values):
        found = sample(rule_list, values)
        self.assertIs(type(found), Log)
        self.assertEqual(found.kind, rule_list.kind)
        entries = [(case, rule_list(case)) for case in plain_cases(rule_list.kind, values)]
        rest = iter(entries)
        self.assertTrue(all(entry in rest for entry in found.entries()))
        for case, answer in entries:
            self.assertTrue(is_entailed(found.kind, found.entries(), case, answer))
        for at, (case, answer) in enumerate(found.entries()):
            self.assertFalse(is_entailed(found.kind, found.without(at).entries(), case, answer))
        self.assertIs(learned(found, rule_list, values), True)
        return len(entries) - len(found)

    def test_example(self):
        self.assertEqual(self.check(RULES, VALUES), 1)

    def test_drawn(self):
        draw = random.Random(112)
        fewer = set()
        for kind in kinds() * 2 + kinds(FIVE):
            rule_list = RuleList(kind, drawn_rules(draw, kind, draw.choice((1, 3, 8))))
            fewer.add(self.check(rule_list, drawn_values(draw, kind)))
        self.assertTrue({0, 1} <= fewer)
        self.assertGreater(max(fewer), 4)

    def test_edges(self):
        self.assertEqual(self.check(RuleList(BARE, [([], "b")]), {}), 0)
        self.assertEqual(sample(RULES, {"x": [], "y": ["a"]}), Log(PAIR))
        rules = RuleList.parse(MIXED, "no if n least 5\nyes if x is a\nno")
        self.check(rules, {"x": ["a", "b"], "n": [9999, 5, 4, -9999, 1, 2, 3, 6]})

    def test_wrong_arguments(self):
        for value in NEVER_LISTS:
            self.assert_raises_holding(InvalidList, value, sample, value, None)
        self.check_values(sample, RuleList.parse(MIXED, "no"))
        self.assertEqual(len(sample(values=VALUES, rule_list=RULES)), 3)


class LearnedTest(SampleCase):
    def check(self, log, rule_list, values):
        if not explained(log):
            self.check_evidence(log, learned, log, rule_list, values)
            return None
        entries = [(case, rule_list(case)) for case in plain_cases(log.kind, values)]
        expected = all(is_entailed(log.kind, log.entries(), case, answer) for case, answer in entries)
        self.assertIs(learned(log, rule_list, values), expected)
        return expected

    def test_example(self):
        log = Log(PAIR, [(("b", "c"), "no"), (("a", "d"), "no")])
        self.assertIs(self.check(log, RULES, VALUES), False)
        self.assertIs(self.check(log + [(("a", "c"), "yes")], RULES, VALUES), True)

    def test_drawn(self):
        draw = random.Random(113)
        found = []
        for log in drawn_logs(113, (0, 1, 4)) + logs_of_lists(114, (3, 9, 16), TWO):
            values = drawn_values(draw, log.kind)
            rule_list = RuleList(log.kind, drawn_rules(draw, log.kind, draw.choice((1, 3))))
            found.append(self.check(log, rule_list, values))
            enough = sample(rule_list, values)
            found.append(self.check(enough, rule_list, values))
            if len(enough):
                found.append(self.check(enough.without(0), rule_list, values))
        self.assertEqual(set(found), {True, False, None})

    def test_other_cases_and_answers(self):
        log = CORNER + [(("z", "z"), "no"), (("z", "y"), "no")]
        self.assertIs(self.check(log, RULES, VALUES), True)
        self.assertIs(self.check(CORNER.stretch(0, 1), RuleList.parse(PAIR, "no"), {"x": ["a"], "y": ["c"]}), False)
        self.assertIs(self.check(Log(PAIR), RULES, {"x": [], "y": ["c"]}), True)
        self.assertIs(self.check(Log(PAIR), RULES, {"x": ["a"], "y": ["c"]}), False)

    def test_17_entries_and_cores(self):
        for values in (VALUES, {"x": [], "y": []}):
            for log in (FULL, FULL.replaced(0, "no")):
                self.assert_too_many(18, learned, log, RULES, values)
            self.check_evidence(SQUARE, learned, SQUARE, RULES, values)

    def test_wrong_arguments(self):
        for value in NEVER_LOGS:
            self.assert_raises_holding(InvalidLog, value, learned, value, None, None)
        for log in (CORNER, SQUARE, FULL):
            for value in NEVER_LISTS:
                self.assert_raises_holding(InvalidList, value, learned, log, value, None)
        log = Log(MIXED)
        for rule_list in (RULES, RuleList.parse(MIXED, "no")):
            self.check_values(learned, log, rule_list)
        for rule_list in (RuleList.parse(MIXED, "no"), RuleList(PAIR.with_width(2), RULES.rules()), RuleList(BARE, [([], "a")])):
            for log in (CORNER, SQUARE, FULL):
                self.assert_raises_holding(OtherKind, rule_list, learned, log, rule_list, VALUES)
        self.assertIs(learned(values=VALUES, rule_list=RULES, log=CORNER), True)


class NextQuestionTest(SampleCase):
    def check(self, log, values):
        if not explained(log):
            self.check_evidence(log, next_question, log, values)
            return None
        expected = next((case for case in plain_cases(log.kind, values) if len(possible(log, case)) > 1), None)
        found = next_question(log, values)
        self.assertEqual(found, expected)
        return found

    def test_example(self):
        log = Log(PAIR, [(("b", "c"), "no"), (("a", "d"), "no")])
        self.assertEqual(self.check(log, VALUES), ("a", "c"))
        self.assertIsNone(self.check(CORNER, VALUES))

    def test_drawn(self):
        draw = random.Random(114)
        found = set()
        for log in drawn_logs(115, (0, 1, 4)) + logs_of_lists(116, (3, 9, 16), FIVE):
            found.add(type(self.check(log, drawn_values(draw, log.kind))))
        self.assertEqual(found, {tuple, type(None)})

    def test_all_questions_together(self):
        values = {"n": [4, 1, 3, 2], "x": ["b", "a", "c"]}
        rules = RuleList.parse(MIXED, "no if n least 3\nyes if x is a\nno")
        log = Log(MIXED)
        while (case := self.check(log, values)) is not None:
            log = log + [(case, rules(case))]
        self.assertIs(learned(log, rules, values), True)

    def test_edges(self):
        self.assertEqual([self.check(Log(BARE), {}), self.check(Log(BARE, [((), "a")]), {})], [(), None])
        self.assertIsNone(self.check(Log(PAIR), {"x": [], "y": ["a"]}))

    def test_17_entries_and_cores(self):
        for values in (VALUES, {"x": [], "y": []}):
            for log in (FULL, FULL.replaced(0, "no")):
                self.assert_too_many(18, next_question, log, values)
            self.check_evidence(SQUARE, next_question, SQUARE, values)

    def test_wrong_arguments(self):
        for value in NEVER_LOGS:
            self.assert_raises_holding(InvalidLog, value, next_question, value, None)
        full = Log(MIXED, [(("a", 1), "no")] * 17)
        for log in (Log(MIXED), full, full.replaced(2, "yes").without(0)):
            self.check_values(next_question, log)
        self.assertIsNone(next_question(values=VALUES, log=CORNER))


if __name__ == "__main__":
    unittest.main()
