import itertools
import random
import unittest

from checks import CheckedCase
from reckoning import cases_beside, drawn_case
from reckoning_changes import are_windows_of, changes_with_answers, fitting_stretches, is_history_of, least_changes
from samples_of_logs import (
    BARE,
    CORNER,
    FIVE,
    NO_LOGS,
    PAIR,
    SQUARE,
    TWO,
    drawn_logs,
    logs_of_changed_rules,
    logs_of_lists,
    turns,
)
from samples_of_values import NEVER_VALID
from seenrules.changes import fewest, fits
from seenrules.errors import DoesNotFit, InvalidCase, InvalidInteger, InvalidLog, TooMany
from seenrules.kinds import Kind
from seenrules.logs import Log
from seenrules.moments import is_verdict_at, timeline, verdict_at
from seenrules.rulelists import RuleList
from seenrules.verdicts import possible, verdict

NEVER_LOGS = [value for value in NEVER_VALID if not isinstance(value, Log)] + NO_LOGS
NO_CASES = [*NEVER_VALID, ["b", "d"], ("b",), ("b", "d", "d"), ("b", 1), (), [], "b d", PAIR, 0, 1]
EXAMPLE = SQUARE.stretch(0, 4) + [(("a", "c"), "no")]
FULL = Log(PAIR, [(("a", "c"), "yes")] * 17)


def fewest_changes(kind, entries):
    """Return the fewest changes of a history of some entries, by trying all stretches."""
    return least_changes(fitting_stretches(kind, entries), len(entries))


class VerdictAtTest(CheckedCase):
    def check_at(self, log, at, case, changes, needed):
        kind, entries = log.kind, log.entries()
        longer = {answer: [*entries[:at], (case, answer), *entries[at:]] for answer in kind.answers()}
        expected = [answer for answer in kind.answers() if needed[answer] <= changes]
        found = verdict_at(log, at, case, changes=changes)
        self.assertIs(type(found), tuple)
        word, histories, windows = found
        self.assertEqual(list(histories), expected)
        self.assertEqual(list(windows), [answer for answer in kind.answers() if answer not in expected])
        self.assertEqual(word, "sure" if len(expected) == 1 else "open")
        for answer, history in histories.items():
            self.assertIs(type(history), tuple)
            cuts, lists = history
            self.assertTrue(is_history_of(Log(kind, longer[answer]), cuts, lists))
            self.assertLessEqual(len(cuts), changes)
        for answer, value in windows.items():
            self.assertEqual(len(value), changes + 1)
            self.assertTrue(are_windows_of(Log(kind, longer[answer]), value))
        self.assertIs(is_verdict_at(log, at, case, found, changes=changes), True)
        return expected

    def check_all_moments(self, log, case, numbers):
        """Check all moments with some numbers of changes; return the numbers of possible answers."""
        kind, entries = log.kind, log.entries()
        answer = kind.answers()[0]
        longer = [[*entries[:at], (case, answer), *entries[at:]] for at in range(len(log) + 1)]
        needed = [changes_with_answers(kind, longer[at], at) for at in range(len(log) + 1)]
        counts = set()
        for changes in numbers:
            expected = [self.check_at(log, at, case, changes, needed[at]) for at in range(len(log) + 1)]
            self.assertEqual(timeline(log, case, changes=changes), expected)
            counts |= {len(answers) for answers in expected}
        return counts

    def check(self, log, case):
        """Check the fewest changes, one and two more, and one less; return the numbers of possible answers."""
        least = fewest_changes(log.kind, log.entries())
        if least:
            self.check_does_not_fit(log, case, least - 1)
        return self.check_all_moments(log, case, [changes for changes in (least, least + 1, least + 2) if changes <= 16])

    def check_does_not_fit(self, log, case, changes):
        for call in (timeline, *[lambda *some, at=at, **named: verdict_at(some[0], at, *some[1:], **named) for at in (0, len(log))]):
            with self.assertRaises(DoesNotFit) as caught:
                call(log, case, changes=changes)
            self.assertEqual(len(caught.exception.evidence), changes + 1)
            self.assertTrue(are_windows_of(log, caught.exception.evidence))

    def test_example(self):
        self.assertEqual(timeline(CORNER, ("b", "d")), [["no"]] * 4)
        self.assertEqual(verdict_at(CORNER, 2, ("b", "d"), changes=1)[0], "open")

    def test_drawn_logs(self):
        draw = random.Random(101)
        counts = set()
        for log in drawn_logs(101, (0, 1, 2, 4, 6)):
            counts |= self.check(log, draw.choice([*log.cases(), drawn_case(draw, log.kind)]))
        self.assertEqual(counts, {1, 2, 3})

    def test_two_and_five_answers(self):
        draw = random.Random(102)
        for log in drawn_logs(102, (3,), TWO) + drawn_logs(103, (5,), FIVE):
            self.check(log, draw.choice([*log.cases(), drawn_case(draw, log.kind)]))

    def test_changed_rules(self):
        draw = random.Random(104)
        for log in logs_of_changed_rules(104, (5, 7)):
            self.check(log, draw.choice(log.cases()))

    def test_16_entries(self):
        log = turns(BARE, (), ["a", "a", "b"], 16)
        self.assertEqual(self.check(log, ()), {1, 2})
        kind = Kind([("x", "word")], TWO)
        log = Log(kind, [(("abcd"[at % 4],), TWO[at // 5 % 2]) for at in range(16)])
        for case in (("a",), ("z",)):
            self.check(log, case)

    def test_all_changes(self):
        log = turns(BARE, (), ["a", "b"], 16)
        self.assertEqual(fewest(log)[0], 15)
        self.assertEqual(timeline(log, (), changes=16), [["a", "b"], *[["a", "b"]] * 16])
        self.assertEqual(timeline(log, (), changes=15), [["a"], *[["a", "b"]] * 15, ["b"]])
        self.check(log, ())

    def test_all_cases_beside_a_log(self):
        for log, changes in itertools.product((CORNER, EXAMPLE), (0, 1, 2)):
            for case in cases_beside(PAIR, log.cases(), []):
                if fewest(log)[0] <= changes:
                    self.check_all_moments(log, case, [changes])

    def test_no_changes(self):
        draw = random.Random(105)
        for log in logs_of_lists(105, (0, 2, 6, 16)):
            case = drawn_case(draw, log.kind)
            self.assertEqual(timeline(log, case), [possible(log, case)] * (len(log) + 1))
            self.assertEqual(list(verdict_at(log, len(log), case)[1]), list(verdict(log, case)[1]))

    def test_no_entries(self):
        for log, case in ((Log(PAIR), ("a", "b")), (Log(BARE), ())):
            self.assertEqual(self.check_all_moments(log, case, (0, 1, 16)), {2})
            self.assertEqual(timeline(log, case), [log.kind.answers()])

    def test_results_are_new(self):
        first = verdict_at(EXAMPLE, 2, ("b", "d"), changes=1)
        answer = next(iter(first[1]))
        for value in (*first[1][answer], first[1], *[window for windows in first[2].values() for window in windows], first[2]):
            value.clear()
        found = timeline(EXAMPLE, ("b", "d"), changes=1)
        expected = [list(answers) for answers in found]
        for at, answers in enumerate(found):
            answers.append("none")
            self.assertTrue(all(other == expected[index] for index, other in enumerate(found) if index > at))
        self.check_all_moments(EXAMPLE, ("b", "d"), [1])

    def test_named_arguments(self):
        self.assertEqual(verdict_at(changes=1, case=("b", "d"), at=2, log=CORNER)[0], "open")
        self.assertEqual(timeline(changes=0, case=("b", "d"), log=CORNER), [["no"]] * 4)
        self.assertIs(is_verdict_at(changes=0, value=None, case=("b", "d"), at=0, log=CORNER), False)
        self.assertRaises(TypeError, verdict_at, CORNER, 2, ("b", "d"), 1)
        self.assertRaises(TypeError, timeline, CORNER, ("b", "d"), 1)


class WrongArgumentsTest(CheckedCase):
    def calls_at(self):
        return [verdict_at, lambda log, at, case, **named: is_verdict_at(log, at, case, None, **named)]

    def test_logs(self):
        for value in NEVER_LOGS:
            self.assert_raises_holding(InvalidLog, value, timeline, value, None, changes=None)
            for call in self.calls_at():
                self.assert_raises_holding(InvalidLog, value, call, value, None, None, changes=None)

    def test_moments(self):
        for log in (CORNER, SQUARE, FULL):
            for value in [*NEVER_VALID, -1, len(log) + 1, "0", [0], log]:
                for call in self.calls_at():
                    self.assert_raises_holding(InvalidInteger, value, call, log, value, None, changes=None)

    def test_cases(self):
        for log in (CORNER, SQUARE, FULL):
            for value in NO_CASES:
                self.assert_raises_holding(InvalidCase, value, timeline, log, value, changes=None)
                for call in self.calls_at():
                    self.assert_raises_holding(InvalidCase, value, call, log, 0, value, changes=None)

    def test_changes(self):
        for log in (CORNER, SQUARE, FULL):
            for value in [*NEVER_VALID, -1, 17, "0", [0], log]:
                self.assert_raises_holding(InvalidInteger, value, timeline, log, ("a", "c"), changes=value)
                for call in self.calls_at():
                    self.assert_raises_holding(InvalidInteger, value, call, log, 0, ("a", "c"), changes=value)

    def test_full_logs(self):
        for log in (FULL, FULL.replaced(3, "no")):
            with self.assertRaises(TooMany) as caught:
                timeline(log, ("a", "c"))
            self.assertEqual(caught.exception.count, 18)
            for call in self.calls_at():
                self.assert_too_many(18, call, log, 17, ("a", "c"))


class IsVerdictAtTest(CheckedCase):
    def check_all(self, expected, log, at, case, values, changes=0):
        self.assert_all(expected, lambda value: is_verdict_at(log, at, case, value, changes=changes), values)

    def test_other_histories_and_windows(self):
        log, case = turns(BARE, (), ["a", "b"], 4), ()
        one, two = RuleList(BARE, [([], "a")]), RuleList(BARE, [([], "b")])
        lists = {"a": ((1, 2, 3, 4), (one, one, two, one, two)), "b": ([1, 3, 4], [one, two, one, two])}
        self.check_all(True, log, 1, case, [("open", lists, {}), ("open", dict(reversed(lists.items())), {})], changes=4)
        self.check_all(False, log, 1, case, [("open", lists, {})], changes=3)
        self.check_all(True, log, 1, case, [("open", {**lists, "a": ([2, 3, 4], [one, two, one, two])}, {})], changes=3)
        self.check_all(True, log, 0, case, [("sure", {"a": ([2, 3, 4], [one, two, one, two])}, {"b": [(1, 0), [2, 1], [2, 3], (4, 3)]})], changes=3)
        wrong = [[[0, 1], [1, 2], [2, 3]], [[0, 1], [1, 2], [2, 3], [3, 4], [3, 4]], [[0, 1], [2, 3], [1, 2], [3, 4]], [], None]
        for windows in wrong:
            self.check_all(False, log, 0, case, [("sure", {"a": ([2, 3, 4], [one, two, one, two])}, {"b": windows})], changes=3)

    def test_a_log_that_does_not_fit(self):
        case, core = ("b", "d"), [0, 1, 2, 3]
        windows = {answer: [core] for answer in TWO}
        self.check_all(True, SQUARE, 5, case, [("open", {}, windows), ("open", {}, {"yes": (core[::-1],), "no": [core]})])
        # The case stands in front of all entries, so their indexes are greater by one.
        self.check_all(False, SQUARE, 0, case, [("open", {}, windows), ("sure", {}, windows)])
        self.check_all(True, SQUARE, 0, case, [("open", {}, {answer: [[1, 2, 3, 4]] for answer in TWO})])
        self.check_all(False, SQUARE, 5, case, [("sure", {}, windows), ("open", {}, {"no": [core]}), ("open", {}, {}), ("open", windows, {})])

    def test_wrong_parts(self):
        case = ("b", "d")
        word, histories, windows = verdict_at(CORNER, 1, case)
        self.assertEqual([word, list(histories), list(windows)], ["sure", ["no"], ["yes"]])
        cuts, lists = histories["no"]
        bad, wider = RuleList.parse(PAIR, "no"), RuleList(PAIR.with_width(2), lists[0].rules())
        wrong = [[word, histories, windows], (word, histories), (word, histories, windows, 1), ("open", histories, windows), (word, windows, histories)]
        wrong += [(value, histories, windows) for value in (None, True, "Sure", ["sure"], PAIR)]
        wrong += [(word, {}, windows), (word, histories, {}), (word, list(histories), windows), (word, histories, None), (word, {"yes": histories["no"]}, windows)]
        for value in ([cuts, lists], (cuts,), (cuts, lists, 1), (lists, cuts), (cuts, [bad]), (cuts, [wider]), ([1], lists), ([1], lists * 2), None, lists[0]):
            wrong.append((word, {"no": value}, windows))
        for value in ([], [[0, 1]], windows["yes"][0], windows["yes"] * 2, None, [None], {0: windows["yes"][0]}, [[0, 1, 2, 4]]):
            wrong.append((word, histories, {"yes": value}))
        wrong += [(word, histories, {**windows, "no": windows["yes"]}), (word, histories, {"yes": windows["yes"], 1: []}), (word, {"no": histories["no"], 1: 1}, {})]
        wrong += [(word, {**histories, "never": histories["no"]}, {}), (word, histories, {"never": windows["yes"]})]
        self.check_all(False, CORNER, 1, case, [*NEVER_VALID, 0, 1, "a", [], (), histories, windows, *wrong])
        self.check_all(True, CORNER, 1, case, [(word, histories, windows)])
        self.check_all(True, CORNER, 1, case, [(word, {"no": (tuple(cuts), tuple(lists))}, {"yes": tuple(windows["yes"])})])

    def test_drawn_logs(self):
        draw = random.Random(106)
        for log in drawn_logs(106, (1, 3, 6)):
            case, at = drawn_case(draw, log.kind), draw.randint(0, len(log))
            changes = min(fewest(log)[0], 16)
            word, histories, windows = verdict_at(log, at, case, changes=changes)
            self.check_all(True, log, at, case, [(word, dict(reversed(histories.items())), dict(reversed(windows.items())))], changes)
            for answer in histories:
                fewer = {key: histories[key] for key in histories if key != answer}
                self.check_all(False, log, at, case, [(word, fewer, windows), (word, fewer, {**windows, answer: [[0, 1]]})], changes)
            for answer, value in windows.items():
                for other in (value[1:], value + value[-1:], [*value[:-1], value[-1][:1]]):
                    self.check_all(False, log, at, case, [(word, histories, {**windows, answer: other})], changes)

    def test_windows_of_the_log_and_its_history(self):
        # What fits says of the log itself is no verdict.
        self.check_all(False, CORNER, 0, ("b", "d"), [fits(CORNER), ("fits", {}, {})])


if __name__ == "__main__":
    unittest.main()
