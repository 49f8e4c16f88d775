import itertools
import random
import unittest

from checks import CheckedCase
from reckoning import are_core, cases_beside, drawn_case, entails_by_cores, explained, is_entailed, kinds
from samples_of_logs import BARE, CORNER, FIVE, NO_LOGS, PAIR, SQUARE, TWO, drawn_logs, logs_of_lists, logs_with_contradictions
from samples_of_values import NEVER_VALID
from seenrules.entailing import entails, same_lists, thinned
from seenrules.errors import DoesNotFit, InvalidLog, OtherKind
from seenrules.kinds import Kind
from seenrules.logs import Log

NEVER_LOGS = [value for value in NEVER_VALID if not isinstance(value, Log)] + NO_LOGS
OTHER_KINDS = [PAIR.with_width(2), PAIR.projected(["x"]), BARE, Kind(PAIR.fields(), ["yes", "no"]), Kind([("y", "word"), ("x", "word")], TWO)]
FULL = Log(PAIR, [(("a", "c"), "yes")] * 17)


class EntailingCase(CheckedCase):
    def check_evidence(self, log, call, *arguments):
        with self.assertRaises(DoesNotFit) as caught:
            call(*arguments)
        evidence = caught.exception.evidence
        self.assertEqual(evidence, sorted(set(evidence)))
        self.assertTrue(are_core(log.kind, log.entries(), frozenset(evidence)))

    def check_two_logs(self, call):
        """Check the wrong arguments of a function of two logs."""
        for value in NEVER_LOGS:
            self.assert_raises_holding(InvalidLog, value, call, value, None)
            for log in (CORNER, SQUARE, FULL):
                self.assert_raises_holding(InvalidLog, value, call, log, value)
        for kind, log in itertools.product(OTHER_KINDS, (CORNER, SQUARE, FULL)):
            self.assert_raises_holding(OtherKind, other := Log(kind), call, log, other)


class EntailsTest(EntailingCase):
    def check(self, log, other):
        if not explained(log):
            self.check_evidence(log, entails, log, other)
            return None
        expected = entails_by_cores(log, other)
        self.assertIs(entails(log, other), expected)
        return expected

    def test_example(self):
        kind = Kind([("x", "word"), ("n", "number")], TWO, width=0)
        log = Log(kind, [(("b", 3), "yes"), (("a", 9999), "yes")])
        self.assertIs(entails(log.stretch(0, 1), log), True)

    def test_each_decision(self):
        for log in (CORNER, CORNER.with_width(2), Log(PAIR), CORNER.stretch(0, 1), CORNER.with_width(0).stretch(1, 3)):
            for case, answer in itertools.product(cases_beside(PAIR, CORNER.cases(), []), TWO):
                self.check(log, Log(log.kind, [(case, answer)]))

    def test_drawn_logs(self):
        draw = random.Random(83)
        found = set()
        for log in drawn_logs(83, (0, 1, 3, 6)) + logs_of_lists(83, (2, 9, 16), TWO) + logs_of_lists(84, (8,), FIVE):
            case, answers = drawn_case(draw, log.kind), log.kind.answers()
            some = [(case, draw.choice(answers)) for case in draw.choices([*log.cases(), case], k=2)]
            for entries in ([], log.entries()[::-1], log.entries()[:3] * 2, some, some[:1]):
                found.add(self.check(log, Log(log.kind, entries)))
        self.assertEqual(found, {True, False, None})

    def test_a_contradiction_is_not_entailed(self):
        other = Log(PAIR, [(("b", "d"), "no"), (("b", "d"), "yes")])
        self.assertIs(entails(CORNER, other), False)
        self.assertIs(entails(CORNER, other.stretch(0, 1)), True)
        self.assertIs(entails(CORNER, Log(PAIR, [(("a", "c"), "no")])), False)

    def test_16_and_17_entries(self):
        self.assertIs(entails(FULL.without(0), FULL), True)
        self.assertIs(entails(FULL.without(0), FULL.replaced(16, "no")), False)
        for log in (FULL, FULL.replaced(0, "no")):
            self.assert_too_many(18, entails, log, Log(PAIR))

    def test_does_not_fit(self):
        self.check_evidence(SQUARE, entails, SQUARE, Log(PAIR))
        self.check_evidence(SQUARE, entails, SQUARE, FULL)

    def test_wrong_arguments(self):
        self.check_two_logs(entails)
        self.assertIs(entails(other=CORNER, log=CORNER), True)


class SameListsTest(EntailingCase):
    def check(self, one, other):
        fitting = [explained(one), explained(other)]
        expected = fitting[0] == fitting[1]
        if all(fitting):
            expected = entails_by_cores(one, other) and entails_by_cores(other, one)
        self.assertIs(same_lists(one, other), expected)
        self.assertIs(same_lists(other, one), expected)
        return (*fitting, expected)

    def test_drawn_logs(self):
        draw = random.Random(85)
        found = set()
        for log in drawn_logs(85, (0, 1, 3, 5)) + logs_of_lists(85, (2, 8, 16), TWO) + logs_with_contradictions(85, (3,)):
            entries = log.entries()
            others = [entries[::-1], entries[1:], (entries * 2)[:16], draw.sample(entries, len(entries) // 2)]
            for other in others:
                found.add(self.check(log, Log(log.kind, other)))
        self.assertTrue({(True, True, True), (True, True, False), (False, True, False), (False, False, True)} <= found)

    def test_one_log_entails_the_other_only(self):
        longer = CORNER + [(("b", "d"), "no")]
        self.assertIs(same_lists(CORNER, longer), True)
        self.assertIs(same_lists(CORNER.stretch(0, 2), CORNER), False)
        self.assertIs(same_lists(CORNER, CORNER.stretch(0, 2)), False)

    def test_no_lists(self):
        other = FULL.replaced(0, "no").without(5)
        self.assertEqual([same_lists(SQUARE, other), same_lists(SQUARE, CORNER), same_lists(CORNER, SQUARE)], [True, False, False])
        self.assertIs(same_lists(Log(PAIR), Log(PAIR)), True)

    def test_17_entries(self):
        self.assertIs(same_lists(FULL.without(0), FULL.stretch(0, 1)), True)
        for log in (FULL, FULL.replaced(0, "no")):
            for other in (Log(PAIR), SQUARE, FULL):
                self.assert_too_many(18, same_lists, log, other)
                self.assert_too_many(18, same_lists, other, log)

    def test_wrong_arguments(self):
        self.check_two_logs(same_lists)
        self.assertIs(same_lists(other=CORNER, one=CORNER), True)


class ThinnedTest(EntailingCase):
    def check(self, log):
        found = thinned(log)
        self.assertIs(type(found), Log)
        self.assertEqual(found.kind, log.kind)
        rest = iter(log.entries())
        self.assertTrue(all(entry in rest for entry in found.entries()))
        self.assertTrue(entails_by_cores(found, log))
        for at, (case, answer) in enumerate(found.entries()):
            self.assertFalse(is_entailed(log.kind, found.without(at).entries(), case, answer))
        return len(found)

    def test_example(self):
        kind = Kind([("x", "word"), ("n", "number")], TWO, width=0)
        self.assertEqual(self.check(Log(kind, [(("b", 3), "yes"), (("a", 9999), "yes")])), 1)

    def test_drawn_logs(self):
        counts = set()
        for log in drawn_logs(86, (0, 1, 2, 5, 8)) + logs_of_lists(86, (3, 9, 17)) + logs_of_lists(87, (15, 16, 17), FIVE):
            if explained(log):
                counts.add(len(log) - self.check(log))
            else:
                self.check_evidence(log, thinned, log)
        self.assertTrue({0, 1, 2, 3} <= counts)
        self.assertGreater(max(counts), 7)

    def test_entries_that_stand_twice(self):
        self.assertEqual([self.check(FULL), self.check(CORNER + CORNER.entries()), self.check(CORNER)], [1, 3, 3])
        self.assertEqual(self.check(CORNER + [(("b", "d"), "no")]), 3)

    def test_no_entries_and_no_fields(self):
        for kind in kinds():
            self.assertEqual(self.check(Log(kind)), 0)
        self.assertEqual(self.check(Log(BARE, [((), "b")] * 17)), 1)

    def test_does_not_fit(self):
        for log in (SQUARE, FULL.replaced(4, "no")):
            self.check_evidence(log, thinned, log)

    def test_the_log_stays(self):
        log = FULL.without(3)
        thinned(log=log).entries().clear()
        self.assertEqual(log.entries(), [(("a", "c"), "yes")] * 16)

    def test_wrong_arguments(self):
        for value in NEVER_LOGS:
            self.assert_raises_holding(InvalidLog, value, thinned, value)


if __name__ == "__main__":
    unittest.main()
