import itertools
import random
import unittest

from checks import CheckedCase, lines_run
from reckoning import are_core, cases_beside, drawn_case, explains, greatest_core
from samples_of_logs import BARE, CORNER, FIVE, NO_LOGS, PAIR, SQUARE, TWO, drawn_logs, logs_of_lists
from samples_of_values import NEVER_VALID
from seenrules.cores import core_of, small_core
from seenrules.errors import DoesNotFit, InvalidCase, InvalidLog
from seenrules.kinds import Kind
from seenrules.logs import Log
from seenrules.rulelists import RuleList
from seenrules.verdicts import is_verdict, possible, verdict

NEVER_LOGS = [value for value in NEVER_VALID if not isinstance(value, Log)] + NO_LOGS
NO_CASES = [*NEVER_VALID, ["b", "d"], ("b",), ("b", "d", "d"), ("b", 1), ("B", "d"), (), [], "b d", PAIR, CORNER, 0, 1]
THREE = Kind(PAIR.fields(), ["no", "yes", "maybe"], width=1)
CORNER_OF_THREE = Log(THREE, CORNER.entries())
FULL = Log(PAIR, [(("a", "c"), "yes")] * 17)
MIXED = Kind([("x", "word"), ("n", "number")], ["no", "yes"], width=1)
ROWS = [("a", 1, "yes"), ("a", 9, "yes"), ("b", 1, "no"), ("b", 5, "yes"), ("c", 5, "yes"), ("c", 9, "no")]
MIXED_LOG = Log(MIXED, [((x, n), answer) for x, n, answer in ROWS])


def logs_with_cases(seed, answers=("no", "yes", "if")):
    """Return pairs of a log with at most 16 entries and a case, some of them of the log."""
    draw = random.Random(seed)
    pairs = []
    for log in drawn_logs(seed, (0, 1, 3, 6), answers) + logs_of_lists(seed, (2, 5, 9, 16), answers):
        cases = log.cases() + [drawn_case(draw, log.kind)]
        pairs += [(log, drawn_case(draw, log.kind)), (log, draw.choice(cases))]
    return pairs


class QuestionCase(CheckedCase):
    """A test case with checks for the exceptions of questions about a case."""

    def check_wrong_arguments(self, call, *more):
        for value in NEVER_LOGS:
            self.assert_raises_holding(InvalidLog, value, call, value, None, *more)
        for log in (CORNER, SQUARE, FULL, FULL.replaced(0, "no")):
            for case in NO_CASES:
                self.assert_raises_holding(InvalidCase, case, call, log, case, *more)
        for log in (FULL, FULL.replaced(0, "no")):
            self.assert_too_many(18, call, log, ("a", "c"), *more)

    def check_does_not_fit(self, call):
        for log in (SQUARE, SQUARE + SQUARE.entries(), FULL.replaced(3, "no").without(0)):
            with self.assertRaises(DoesNotFit) as caught:
                call(log, ("a", "c"))
            core = caught.exception.evidence
            self.assertEqual(core, sorted(set(core)))
            self.assertTrue(are_core(PAIR, log.entries(), frozenset(core)))


class VerdictTest(QuestionCase):
    def check(self, log, case):
        answers = log.kind.answers()
        expected = [answer for answer in answers if not greatest_core(log.kind, [*log.entries(), (case, answer)])]
        found = verdict(log, case)
        self.assertIs(type(found), tuple)
        word, lists, cores = found
        self.assertEqual(list(lists), expected)
        self.assertEqual(list(cores), [answer for answer in answers if answer not in expected])
        self.assertEqual(word, "sure" if len(expected) == 1 else "open")
        self.assertGreater(len(expected), 0)
        for answer, rules in lists.items():
            self.assertTrue(explains(rules, log))
            self.assertEqual(rules(case), answer)
        for answer, core in cores.items():
            longer = [*log.entries(), (case, answer)]
            self.assertEqual(core, sorted(set(core)))
            self.assertTrue(are_core(log.kind, longer, frozenset(core)))
            for index in core:
                self.assertEqual(greatest_core(log.kind, [longer[other] for other in core if other != index]), [])
        self.assertEqual(possible(log, case), expected)
        self.assertIs(is_verdict(log, case, found), True)
        return expected

    def test_examples(self):
        word, lists, cores = verdict(CORNER_OF_THREE, ("b", "d"))
        self.assertEqual([word, list(lists), cores], ["sure", ["no"], {"yes": [0, 1, 2, 3], "maybe": [0, 1, 2, 3]}])
        self.assertEqual([lists["no"](("b", "d")), possible(CORNER_OF_THREE, ("b", "z"))], ["no", ["no", "yes", "maybe"]])
        self.assertEqual(possible(MIXED_LOG, ("a", 4)), ["yes"])

    def test_drawn_logs(self):
        counts = []
        for log, case in logs_with_cases(71):
            if core_of(log):
                self.assertRaises(DoesNotFit, verdict, log, case)
                self.assertRaises(DoesNotFit, possible, log, case)
            else:
                counts.append(len(self.check(log, case)))
        self.assertTrue({1, 3} <= set(counts))

    def test_two_and_five_answers(self):
        for answers in (TWO, FIVE):
            counts, seen, missing = set(), set(), set()
            for log, case in logs_with_cases(74, answers):
                if core_of(log):
                    self.assertRaises(DoesNotFit, verdict, log, case)
                    self.assertRaises(DoesNotFit, possible, log, case)
                else:
                    counts.add(len(self.check(log, case)))
                    seen.add(case in log)
                    missing.add(len(set(answers) - {answer for other, answer in log.entries()}))
            self.assertTrue({1, len(answers)} <= counts)
            self.assertEqual(seen, {True, False})
            self.assertTrue(set(range(len(answers))) <= missing)

    def test_of_the_issue(self):
        kind = Kind(MIXED.fields(), FIVE)
        rows = [("a", 1, "no"), ("a", 9, "no"), ("b", 1, "yes"), ("b", 5, "no"), ("c", 5, "no"), ("c", 9, "yes")]
        log = Log(kind, [((x, n), answer) for x, n, answer in rows])
        self.assertEqual(self.check(log, ("a", 4)), ["no"])
        for case in cases_beside(kind, log.cases(), []):
            self.check(log, case)

    def test_several_but_not_all_answers(self):
        kind = Kind(PAIR.fields(), FIVE)
        rows = [("a", "p", "no"), ("r", "p", "maybe"), ("r", "b", "other"), ("s", "b", "other"), ("s", "p", "maybe")]
        log = Log(kind, [((x, y), answer) for x, y, answer in rows])
        counts = [len(self.check(log, case)) for case in cases_beside(kind, log.cases(), [])]
        self.assertEqual(set(counts), {1, 2, 5})

    def test_two_of_three_answers(self):
        log = Log(THREE, [(("a", "p"), "no"), (("r", "p"), "maybe"), (("r", "b"), "yes")])
        self.assertEqual(self.check(log, ("a", "b")), ["no", "yes"])
        self.assertEqual(verdict(log, ("a", "b"))[2], {"maybe": [0, 1, 2, 3]})

    def test_all_cases_beside_a_log(self):
        for log in (CORNER, CORNER_OF_THREE, MIXED_LOG, MIXED_LOG.with_width(2)):
            for case in cases_beside(log.kind, log.cases(), []):
                self.check(log, case)

    def test_answers_that_no_entry_has(self):
        kind = Kind(PAIR.fields(), ["v", "w", "no", "yes", "z"], width=1)
        log = Log(kind, CORNER.entries())
        for case in cases_beside(kind, log.cases(), []):
            found = self.check(log, case)
            self.assertIn(len(set(found) & {"v", "w", "z"}), (0, 3))
            if "v" in found:
                self.assertEqual(found, kind.answers())

    def test_no_entries_and_no_fields(self):
        self.assertEqual(self.check(Log(PAIR), ("a", "b")), ["no", "yes"])
        self.assertEqual(self.check(Log(BARE), ()), ["a", "b"])
        self.assertEqual(self.check(Log(BARE, [((), "b")]), ()), ["b"])

    def test_16_entries(self):
        self.assertEqual(self.check(FULL.without(0), ("a", "c")), ["yes"])
        self.assertEqual(self.check(FULL.without(0), ("b", "c")), ["no", "yes"])

    def test_results_are_new(self):
        word, lists, cores = verdict(CORNER_OF_THREE, ("b", "d"))
        lists["no"].rules().clear()
        lists.clear()
        cores["yes"].clear()
        cores.clear()
        possible(CORNER_OF_THREE, ("b", "d")).clear()
        self.check(CORNER_OF_THREE, ("b", "d"))

    def test_named_arguments(self):
        self.assertEqual(verdict(case=("b", "d"), log=CORNER)[0], "sure")
        self.assertEqual(possible(case=("b", "d"), log=CORNER), ["no"])
        self.assertIs(is_verdict(value=None, case=("b", "d"), log=CORNER), False)

    def test_wrong_arguments(self):
        for call in (verdict, possible):
            self.check_wrong_arguments(call)
            self.check_does_not_fit(call)


class WorkTest(CheckedCase):
    def test_all_answers_at_once(self):
        rows = [("a", 1, "no"), ("a", 9, "no"), ("b", 1, "yes"), ("b", 5, "no"), ("c", 5, "no"), ("c", 9, "yes")]
        entries = [((x, n), answer) for x, n, answer in rows]
        two, five = [Log(Kind(MIXED.fields(), answers), entries) for answers in (TWO, FIVE)]
        self.assertLess(lines_run(possible, five, ("a", 4)), 3 * lines_run(core_of, five))
        self.assertLess(lines_run(possible, five, ("a", 4)), 1.2 * lines_run(possible, two, ("a", 4)))
        self.assertLess(lines_run(verdict, five, ("a", 4)), 2 * lines_run(verdict, two, ("a", 4)))


class IsVerdictTest(QuestionCase):
    def check_all(self, expected, log, case, values):
        self.assert_all(expected, lambda value: is_verdict(log, case, value), values)

    def test_other_verdicts(self):
        word, lists, cores = verdict(CORNER_OF_THREE, ("b", "d"))
        others = {"no": RuleList.parse(THREE, "no if x is b\nno if y is d\nyes")}
        turned = {"maybe": (3, 0, 1, 2), "yes": [3, 2, 1, 0]}
        self.check_all(True, CORNER_OF_THREE, ("b", "d"), [(word, lists, cores), (word, others, turned), (word, others, cores)])

    def test_keys_in_any_order(self):
        word, lists, cores = verdict(CORNER_OF_THREE, ("b", "z"))
        for names in itertools.permutations(lists):
            self.check_all(True, CORNER_OF_THREE, ("b", "z"), [(word, {name: lists[name] for name in names}, cores)])

    def test_cores_that_contain_other_cores(self):
        log = Log(PAIR, CORNER.entries() * 2)
        cores = {"yes": [0, 1, 2, 3, 4, 5, 6]}
        word, lists, small = verdict(log, ("b", "d"))
        self.check_all(True, log, ("b", "d"), [(word, lists, cores), (word, lists, small)])

    def test_a_log_with_a_core(self):
        case = ("b", "d")
        core = core_of(SQUARE)
        self.check_all(True, SQUARE, case, [("open", {}, {"no": core, "yes": core}), ("open", {}, {"yes": tuple(core), "no": core})])
        wrong = [("sure", {}, {"no": core, "yes": core}), ("open", {}, {"no": core}), ("open", {}, {}), ("open", {}, {"no": core, "yes": []})]
        wrong.append(("open", {"no": RuleList.parse(PAIR, "no")}, {"yes": core}))
        self.check_all(False, SQUARE, case, wrong)
        for log, case in logs_with_cases(72):
            if core_of(log):
                cores = {answer: small_core(log + [(case, answer)]) for answer in log.kind.answers()}
                self.check_all(True, log, case, [("open", {}, cores)])

    def test_wrong_parts(self):
        case = ("b", "d")
        word, lists, cores = verdict(CORNER_OF_THREE, case)
        no, yes, maybe = lists["no"], cores["yes"], cores["maybe"]
        bad_list = RuleList.parse(THREE, "no")
        other_kind = RuleList.parse(PAIR, "no if x is b\nno if y is d\nyes")
        wider = RuleList(THREE.with_width(2), no.rules())
        wrong = [["sure", lists, cores], ("sure", lists), ("sure", lists, cores, 1), (lists, cores), ("open", lists, cores)]
        wrong += [("Sure", lists, cores), (None, lists, cores), (True, lists, cores), (["sure"], lists, cores), (THREE, lists, cores)]
        wrong += [("sure", {}, cores), ("sure", lists, {}), ("sure", cores, lists), ("sure", list(lists), cores), ("sure", lists, None)]
        wrong += [("sure", {"no": value}, cores) for value in (bad_list, other_kind, wider, None, no.rules(), str(no), [no], THREE)]
        wrong += [("sure", {"no": no}, {"yes": yes, "maybe": value}) for value in ([0, 1, 2], [], [0, 1, 2, 3, 4], None, "0123", [0, 1, 2, 3, 3])]
        wrong += [("sure", {"no": no}, {"yes": yes, "maybe": value}) for value in ([False, True, 2, 3], {0: 0}, [[0, 1, 2, 3]], no)]
        wrong += [("sure", {"no": no}, {"yes": yes}), ("sure", {"no": no}, {"yes": yes, "never": maybe})]
        wrong += [("sure", {"no": no}, {"yes": yes, "maybe": maybe, "never": maybe}), ("sure", {"no": no}, {"no": yes, "yes": yes, "maybe": maybe})]
        wrong += [("open", {"no": no, "yes": no}, {"maybe": maybe}), ("open", {"no": no, "yes": no}, {"yes": yes, "maybe": maybe})]
        wrong += [("sure", {"yes": no}, {"no": yes, "maybe": maybe}), ("sure", {"no": no}, {"yes": yes, 1: maybe}), ("sure", {1: no}, cores)]
        wrong += [("sure", {"no": no}, {"no": yes, "yes": yes}), ("open", {"no": no, "maybe": no}, {"maybe": maybe})]
        self.check_all(False, CORNER_OF_THREE, case, [*NEVER_VALID, 0, 1, "a", [], (), "sure", lists, cores, *wrong])

    def test_a_core_of_the_log_with_another_answer_is_none(self):
        log = Log(THREE, [(("a", "c"), "yes")])
        word, lists, cores = verdict(log, ("a", "c"))
        self.check_all(True, log, ("a", "c"), [(word, lists, {"no": [1, 0], "maybe": (0, 1)})])
        self.check_all(False, log, ("a", "c"), [(word, lists, {"no": [0], "maybe": [0, 1]}), ("open", {}, {**cores, "yes": [0, 1]})])

    def test_drawn_logs(self):
        for log, case in logs_with_cases(73):
            if not core_of(log):
                word, lists, cores = verdict(log, case)
                self.check_all(True, log, case, [(word, dict(reversed(lists.items())), dict(reversed(cores.items())))])
                other = "open" if word == "sure" else "sure"
                self.check_all(False, log, case, [(other, lists, cores)])
                for answer in lists:
                    fewer = {key: lists[key] for key in lists if key != answer}
                    self.check_all(False, log, case, [(word, fewer, cores), (word, fewer, {**cores, answer: [0, 1]})])
                for answer, core in cores.items():
                    self.check_all(False, log, case, [(word, lists, {**cores, answer: core[1:]})])

    def test_the_value_stays(self):
        word, lists, cores = verdict(CORNER_OF_THREE, ("b", "d"))
        cores["yes"].reverse()
        is_verdict(CORNER_OF_THREE, ("b", "d"), (word, lists, cores))
        self.assertEqual([cores["yes"], list(lists), list(cores)], [[3, 2, 1, 0], ["no"], ["yes", "maybe"]])

    def test_wrong_arguments(self):
        self.check_wrong_arguments(is_verdict, None)


if __name__ == "__main__":
    unittest.main()
