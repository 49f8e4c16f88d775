import itertools
import unittest

from checks import CheckedCase
from reckoning_changes import are_windows_of, fitting_stretches, histories_of, is_history_of, least_changes
from samples_of_logs import (
    BARE,
    CORNER,
    FIVE,
    NO_LOGS,
    PAIR,
    SQUARE,
    TWO,
    drawn_logs,
    logs_of_changed_rules,
    logs_of_lists,
    logs_with_contradictions,
    turns,
)
from samples_of_values import NEVER_VALID
from seenrules.changes import are_windows, fewest, fits, is_history, ranges
from seenrules.errors import InvalidInteger, InvalidLog
from seenrules.kinds import Kind
from seenrules.logs import Log
from seenrules.rulelists import RuleList
from seenrules.stripping import rules_for

NEVER_LOGS = [value for value in NEVER_VALID if not isinstance(value, Log)] + NO_LOGS
EXAMPLE = SQUARE.stretch(0, 4) + [(("a", "c"), "no")]
BY_TURNS = turns(BARE, (), ["a", "b"], 17)


class HistoryCase(CheckedCase):
    """A test case with checks of histories and windows."""

    def check_history(self, log, cuts, lists):
        self.assertEqual([type(cuts), type(lists)], [list, list])
        self.assertTrue(is_history_of(log, cuts, lists))
        self.assertIs(is_history(log, cuts, lists), True)

    def check_windows(self, log, windows, count):
        self.assertEqual(len(windows), count)
        self.assertEqual({type(item) for item in [windows, *windows]}, {list})
        if count:
            self.assertTrue(are_windows_of(log, windows))
        self.assertIs(are_windows(log, windows), count > 0)


class FitsTest(HistoryCase):
    def check_fits(self, log, changes, least):
        found = fits(log, changes=changes)
        self.assertIs(type(found), tuple)
        if changes >= least:
            word, cuts, lists = found
            self.assertEqual(word, "fits")
            self.check_history(log, cuts, lists)
            self.assertLessEqual(len(cuts), changes)
        else:
            word, windows = found
            self.assertEqual(word, "stuck")
            self.check_windows(log, windows, changes + 1)

    def check(self, log, numbers):
        fitting = fitting_stretches(log.kind, log.entries())
        least = least_changes(fitting, len(log))
        for changes in sorted({*numbers, max(least - 1, 0), least, min(least + 1, 16)}):
            self.check_fits(log, changes, least)
        changes, cuts, lists, windows = fewest(log)
        self.assertEqual([changes, len(cuts), type(changes)], [least, least, int])
        self.check_history(log, cuts, lists)
        self.check_windows(log, windows, least)
        self.check_ranges(log, fitting, least)
        return least

    def check_ranges(self, log, fitting, least):
        places = [sorted(set(cuts)) for cuts in zip(*histories_of(fitting, len(log), least))]
        self.assertEqual(ranges(log), [(cuts[0], cuts[-1]) for cuts in places])
        for cuts in places:
            self.assertEqual(cuts, list(range(cuts[0], cuts[-1] + 1)))

    def test_example(self):
        log = EXAMPLE
        self.assertEqual([fits(log)[0], fits(log, changes=1)[0], fewest(log)[0], ranges(log)], ["stuck", "fits", 1, [(1, 3)]])
        self.check(log, range(17))

    def test_drawn_logs(self):
        least = [self.check(log, (0, 1, 2)) for log in drawn_logs(92, (0, 1, 2, 3, 5, 8))]
        least += [self.check(log, (0, 16)) for log in drawn_logs(93, (4, 7), TWO) + drawn_logs(94, (6,), FIVE)]
        self.assertTrue({0, 1, 2, 3} <= set(least))

    def test_logs_of_lists_need_no_change(self):
        for log in logs_of_lists(95, (0, 1, 6, 17)):
            word, cuts, lists = fits(log)
            self.assertEqual([word, cuts, len(lists)], ["fits", [], 1])
            self.check_history(log, cuts, lists)
            self.assertEqual([fewest(log)[0], fewest(log)[3], ranges(log)], [0, [], []])

    def test_changed_rules(self):
        for log in logs_of_changed_rules(96, (4, 9)) + logs_with_contradictions(96, (2, 6)):
            self.check(log, (0,))

    def test_long_logs(self):
        kinds = [Kind(fields, FIVE[:count], width=width) for fields, count, width in (([("x", "word")], 2, 1), (PAIR.fields(), 5, 2))]
        for kind, count in itertools.product(kinds, (15, 16, 17)):
            cases = [("a", "b", "c", "d")[at * at % 4 : at * at % 4 + 1] * len(kind.names()) for at in range(count)]
            answers = [kind.answers()[at // 3 % len(kind.answers())] for at in range(count)]
            self.assertGreater(self.check(Log(kind, list(zip(cases, answers))), range(17)), 1)

    def test_one_case_by_turns(self):
        self.assertEqual(fewest(BY_TURNS)[0], 16)
        self.assertEqual(ranges(BY_TURNS), [(at, at) for at in range(1, 17)])
        for changes in range(17):
            self.check_fits(BY_TURNS, changes, 16)
        self.assertEqual(fits(BY_TURNS, changes=15)[1], [[at, at + 1] for at in range(16)])
        self.assertEqual(fits(BY_TURNS, changes=16)[1], list(range(1, 17)))
        for fields, case in (([], ()), ([("x", "word"), ("n", "number")], ("a", 9999))):
            log = turns(Kind(fields, FIVE, width=2), case, ["no", "no", "yes", "never", "never", "never"], 17)
            self.check(log, range(17))

    def test_no_entries(self):
        for log in (Log(BARE), Log(PAIR)):
            for changes in range(17):
                word, cuts, lists = fits(log, changes=changes)
                self.assertEqual([word, cuts, len(lists)], ["fits", [], 1])
                self.check_history(log, cuts, lists)
            changes, cuts, lists, windows = fewest(log)
            self.assertEqual([changes, cuts, len(lists), windows, ranges(log)], [0, [], 1, [], []])

    def test_wide_ranges(self):
        # The entry that belongs to both lists may stand on either side of the cut.
        kind = Kind([("n", "number")], TWO, width=0)
        log = Log(kind, [((at,), "no" if at < 5 else "yes") for at in range(9)])
        self.assertEqual(ranges(log), [(5, 5)])
        log = Log(kind.with_width(1), [((0,), "no"), ((1,), "yes"), ((5,), "no"), ((6,), "yes"), ((0,), "yes"), ((1,), "no")])
        self.assertEqual(self.check(log, ()), 1)
        self.assertEqual(ranges(log), [(2, 4)])

    def test_results_are_new(self):
        expected = [fits(EXAMPLE, changes=1), fits(EXAMPLE), fewest(EXAMPLE)]
        found = [fits(EXAMPLE, changes=1), fits(EXAMPLE), fewest(EXAMPLE), ranges(EXAMPLE)]
        for value in [found[0][1], found[0][2], found[1][1][0], found[1][1], found[2][1], found[2][2], found[2][3][0], found[2][3], found[3]]:
            value.clear()
        self.assertEqual([fits(EXAMPLE, changes=1), fits(EXAMPLE), fewest(EXAMPLE)], expected)
        self.assertEqual(ranges(log=EXAMPLE), [(1, 3)])

    def test_wrong_arguments(self):
        for value in NEVER_LOGS:
            self.assert_raises_holding(InvalidLog, value, fits, value, changes=None)
            for call in (fewest, ranges):
                self.assert_raises_holding(InvalidLog, value, call, value)
        for value in [*NEVER_VALID, -1, 17, "0", [0], CORNER]:
            self.assert_raises_holding(InvalidInteger, value, fits, EXAMPLE, changes=value)
        self.assertRaises(TypeError, fits, EXAMPLE, 1)
        self.assertEqual(fits(changes=0, log=EXAMPLE)[0], "stuck")


class IsHistoryTest(CheckedCase):
    def test_other_histories(self):
        wide = RuleList.parse(PAIR, "yes if x is a\nno")
        for cut in (1, 2, 3):
            lists = [rules_for(EXAMPLE.stretch(0, cut)), rules_for(EXAMPLE.stretch(cut, 5))]
            for cuts in ([cut], (cut,)):
                self.assertIs(is_history(EXAMPLE, cuts, lists), True)
                self.assertIs(is_history(EXAMPLE, cuts, tuple(lists)), True)
            self.assertIs(is_history(EXAMPLE, [cut], lists[::-1]), False)
        lists = [rules_for(EXAMPLE.stretch(at, at + 1)) for at in range(5)]
        self.assertIs(is_history(lists=lists, cuts=[1, 2, 3, 4], log=EXAMPLE), True)
        self.assertIs(is_history(Log(PAIR), [], [wide]), True)
        self.assertIs(is_history(Log(PAIR), [], [wide, wide]), False)
        self.assertIs(is_history(Log(PAIR), [], []), False)

    def test_wrong_values(self):
        word, cuts, lists = fits(EXAMPLE, changes=1)
        first, second = lists
        self.assertIs(is_history(EXAMPLE, cuts, lists), True)
        no_cuts = [[], [0], [4], [5], [-1], [True], ["1"], [None], [cuts], [1.5], 1, {1: 1}, {"a": 1}, cuts * 2, [1, 1], [3, 1], [1, 2]]
        for value in [*NEVER_VALID, *no_cuts]:
            self.assertIs(is_history(EXAMPLE, value, lists), False)
        wider, other = RuleList(PAIR.with_width(2), first.rules()), RuleList(BARE, [([], "a")])
        no_lists = [[], [first], [first, second, second], [second, first], [first, None], [first.rules(), second.rules()]]
        no_lists += [[wider, second], [other, second], [str(first), str(second)], {0: first, 1: second}, first, [[first, second]]]
        no_lists += [[EXAMPLE, EXAMPLE], [PAIR, PAIR]]
        for value in [*NEVER_VALID, *no_lists]:
            self.assertIs(is_history(EXAMPLE, cuts, value), False)
            self.assertIs(is_history(EXAMPLE, value, value), False)

    def test_each_cut_must_leave_entries(self):
        rules = RuleList.parse(PAIR, "yes")
        log = Log(PAIR, [(("a", "c"), "yes")])
        self.assertIs(is_history(log, [], [rules]), True)
        self.assertIs(is_history(log, [], [RuleList.parse(PAIR, "no")]), False)
        for cuts in ([0], [1], [2]):
            self.assertIs(is_history(log, cuts, [rules, rules]), False)
        self.assertIs(is_history(log + log.entries(), [1], [rules, rules]), True)

    def test_17_lists(self):
        lists = [RuleList(BARE, [([], "ab"[at % 2])]) for at in range(17)]
        self.assertIs(is_history(BY_TURNS, list(range(1, 17)), lists), True)
        self.assertIs(is_history(BY_TURNS, list(range(1, 16)), lists[:16]), False)

    def test_wrong_arguments(self):
        for value in NEVER_LOGS:
            self.assert_raises_holding(InvalidLog, value, is_history, value, None, None)
            self.assert_raises_holding(InvalidLog, value, are_windows, value, None)


class AreWindowsTest(CheckedCase):
    def test_example(self):
        self.assertEqual([are_windows(EXAMPLE, [[0, 1, 2, 3]]), are_windows(EXAMPLE, [[4, 0]])], [True, True])

    def test_order(self):
        log = turns(BARE, (), ["a", "b"], 6)
        for windows in ([[0, 1]], [[0, 1], [1, 2]], [[1, 0], (2, 1), [3, 4]], ((0, 3), (3, 5, 4)), [[0, 1, 2, 3, 4, 5]], [[0, 1], [4, 5]]):
            self.assertIs(are_windows(log, windows), True)
        for windows in ([[0, 2]], [[0, 1], [0, 1]], [[0, 2, 1], [1, 2]], [[1, 2], [0, 1]], [[0, 3], [2, 5]], [[0, 1], [1, 3]]):
            self.assertIs(are_windows(log, windows), False)

    def test_all_pairs_of_cores(self):
        log = SQUARE.stretch(0, 4) + [(("a", "c"), "no"), (("b", "d"), "no")]
        chosen = [list(some) for count in range(5) for some in itertools.combinations(range(6), count)]
        for one, other in itertools.product(chosen, chosen):
            expected = are_windows_of(log, [one, other]) if one and other else False
            self.assertIs(are_windows(log, [one, other]), expected)

    def test_wrong_values(self):
        wrong = [[], (), [[]], [()], [[0, 1, 2, 3], []], [0, 4], [[0, 1]], [[0, 4, 4]], [[0, 5]], [[0, -1]], [["0", "4"]], [[False, 4]]]
        wrong += [[None], "04", {0: [0, 4]}, [{0: 0, 4: 4}], [[[0, 4]]], [[0, 4], None], [None, [0, 4]], EXAMPLE, [EXAMPLE], [[0, 4], 4]]
        self.assert_all(False, lambda value: are_windows(EXAMPLE, value), [*NEVER_VALID, *wrong])
        self.assert_all(False, lambda value: are_windows(Log(PAIR), value), [*NEVER_VALID, *wrong])
        self.assertIs(are_windows(value=[[0, 4]], log=EXAMPLE), True)

    def test_the_value_stays(self):
        value = [[4, 0]]
        are_windows(EXAMPLE, value)
        self.assertEqual(value, [[4, 0]])


if __name__ == "__main__":
    unittest.main()
