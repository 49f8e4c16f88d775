import random
import unittest

from checks import CheckedCase
from reckoning import are_met, can_be_explained, drawn_rules, explains, greatest_core, kinds
from samples_of_logs import BARE, CORNER, NO_LOGS, PAIR, SQUARE, drawn_logs, logs_of_lists, logs_with_contradictions
from samples_of_values import NEVER_VALID
from seenrules.cores import core_of
from seenrules.errors import InvalidList, InvalidLog, OtherKind
from seenrules.kinds import Kind
from seenrules.logs import Log
from seenrules.meeting import strongest
from seenrules.rulelists import RuleList
from seenrules.stripping import first_wrong, rules_for, strikes

NEVER_LOGS = [value for value in NEVER_VALID if not isinstance(value, Log)] + NO_LOGS
NEVER_LISTS = [value for value in NEVER_VALID if not isinstance(value, RuleList)] + NO_LOGS + [CORNER]


class StrikesTest(CheckedCase):
    def check(self, log):
        entries, left = log.entries(), list(range(len(log)))
        for strike in strikes(log):
            self.assertIs(type(strike), tuple)
            tests, answer, indexes = strike
            self.assertIs(type(tests), list)
            self.assertLessEqual(len(tests), log.kind.width)
            met = [index for index in left if are_met(log.kind, entries[index][0], tests)]
            self.assertEqual(indexes, met)
            self.assertEqual({entries[index][1] for index in met}, {answer})
            own = [strongest(log.kind, entries[index][0]) for index in met]
            self.assertTrue(any(all(test in some for test in tests) for some in own))
            self.assertEqual(len(set(tests)), len(tests))
            left = [index for index in left if index not in met]
        self.assertEqual(left, greatest_core(log.kind, entries))

    def test_drawn_logs(self):
        for log in drawn_logs(51, (0, 1, 3, 6, 17)) + logs_with_contradictions(51, (2, 9)):
            self.check(log)

    def test_example(self):
        self.assertEqual(sum([len(indexes) for tests, answer, indexes in strikes(CORNER)]), 3)
        self.check(SQUARE)
        struck = [indexes for tests, answer, indexes in strikes(SQUARE)]
        self.assertEqual(struck, [[4]])

    def test_no_entries_and_no_fields(self):
        self.assertEqual(list(strikes(Log(PAIR))), [])
        self.assertEqual(list(strikes(Log(BARE, [((), "b")] * 3))), [([], "b", [0, 1, 2])])
        self.assertEqual(list(strikes(Log(BARE, [((), "b"), ((), "a")]))), [])

    def test_width_zero(self):
        log = CORNER.with_width(0)
        self.assertEqual(list(strikes(log)), [])
        self.assertEqual(list(strikes(log.stretch(1, 3))), [([], "no", [0, 1])])

    def test_items_may_be_changed(self):
        expected = list(strikes(CORNER))
        found = []
        for tests, answer, indexes in strikes(CORNER):
            found.append((list(tests), answer, list(indexes)))
            tests.append(None)
            indexes.clear()
        self.assertEqual(found, expected)
        self.assertEqual(list(strikes(log=CORNER)), expected)

    def test_two_at_once(self):
        log = CORNER.stretch(1, 3) + [(("e", "e"), "yes"), (("f", "f"), "no")]
        one, other = strikes(log), strikes(SQUARE)
        first = next(one)
        self.assertEqual(next(other)[2], [4])
        self.assertIsNone(next(other, None))
        self.assertEqual([first, *one], list(strikes(log)))

    def test_raises_when_the_first_item_is_asked_for(self):
        for value in NEVER_LOGS:
            generator = strikes(value)
            self.assert_raises_holding(InvalidLog, value, next, generator)


class RulesForTest(CheckedCase):
    def check(self, log):
        rule_list = rules_for(log)
        if rule_list is None:
            self.assertNotEqual(greatest_core(log.kind, log.entries()), [])
            self.assertNotEqual(core_of(log), [])
        else:
            self.assertIs(type(rule_list), RuleList)
            self.assertTrue(explains(rule_list, log))
            self.assertEqual(greatest_core(log.kind, log.entries()), [])
            self.assertEqual(core_of(log), [])
        return rule_list

    def test_drawn_logs(self):
        found = [self.check(log) for log in drawn_logs(53, (0, 1, 2, 3, 5, 9, 17))]
        self.assertGreater(found.count(None), 50)
        self.assertGreater(len(found) - found.count(None), 50)

    def test_small_logs_by_trying_all_rules(self):
        for log in drawn_logs(54, (2, 3, 4, 6)):
            self.assertEqual(rules_for(log) is not None, can_be_explained(log.kind, log.entries()))

    def test_logs_of_a_list(self):
        for log in logs_of_lists(55, (1, 4, 10, 17)):
            self.assertIsNotNone(self.check(log))

    def test_logs_with_contradictions(self):
        for log in logs_with_contradictions(56, (2, 3, 8, 17)):
            self.assertIsNone(self.check(log))

    def test_examples(self):
        self.assertIsNone(first_wrong(rules_for(log=CORNER), CORNER))
        self.assertIsNone(rules_for(SQUARE))

    def test_no_entries_and_no_fields(self):
        for kind in kinds():
            self.assertEqual(len(rules_for(Log(kind)).rules()[-1][0]), 0)
            self.assertEqual(rules_for(Log(kind)).kind, kind)
        self.assertEqual(rules_for(Log(BARE, [((), "b")] * 17))(()), "b")
        self.assertIsNone(rules_for(Log(BARE, [((), "b"), ((), "a")])))

    def test_17_rules_are_enough(self):
        kind = Kind([("x", "word")], ["a", "b", "c", "d", "e"], width=1)
        log = Log(kind, [((letter,), "abcde"[at // 2 if at < 10 else 0]) for at, letter in enumerate("abcdefghijklmnopq")])
        self.assertIsNotNone(self.check(log))
        kind = Kind([("n", "number")], ["no", "yes"], width=1)
        log = Log(kind, [((number,), ("no", "yes")[number & 1]) for number in range(17)])
        self.assertIsNotNone(self.check(log))

    def test_wrong_arguments(self):
        for value in NEVER_LOGS:
            self.assert_raises_holding(InvalidLog, value, rules_for, value)


class FirstWrongTest(CheckedCase):
    def test_first_of_several(self):
        rule_list = RuleList.parse(PAIR, "yes if x is a\nno")
        self.assertEqual(first_wrong(rule_list, CORNER), 1)
        self.assertEqual(first_wrong(RuleList.parse(PAIR, "no"), CORNER), 0)
        self.assertEqual(first_wrong(log=SQUARE, rules=RuleList.parse(PAIR, "no if x is b\nno if y is d\nyes")), 3)

    def test_none(self):
        self.assertIsNone(first_wrong(RuleList.parse(PAIR, "no if x is b\nno if y is d\nyes"), CORNER))
        self.assertIsNone(first_wrong(RuleList.parse(PAIR, "no"), Log(PAIR)))

    def test_drawn(self):
        for log in drawn_logs(57, (1, 4, 17)):
            rules = drawn_rules(random.Random(len(str(log))), log.kind, 4)
            rule_list = RuleList(log.kind, rules)
            wrong = [index for index, (case, answer) in enumerate(log.entries()) if rule_list(case) != answer]
            self.assertEqual(first_wrong(rule_list, log), wrong[0] if wrong else None)

    def test_wrong_arguments(self):
        rule_list = RuleList.parse(PAIR, "no")
        for value in NEVER_LISTS:
            self.assert_raises_holding(InvalidList, value, first_wrong, value, None)
        for value in NEVER_LOGS:
            self.assert_raises_holding(InvalidLog, value, first_wrong, rule_list, value)
        for kind in (PAIR.with_width(2), PAIR.projected(["x"]), BARE):
            self.assert_raises_holding(OtherKind, log := Log(kind), first_wrong, rule_list, log)


if __name__ == "__main__":
    unittest.main()
