import functools
import itertools
import random
import unittest

from checks import CheckedCase
from reckoning import are_core, cases_beside, drawn_case, greatest_core
from samples_of_logs import BARE, CORNER, FIVE, NO_LOGS, PAIR, SQUARE, TWO, drawn_logs, logs_of_lists
from samples_of_values import NEVER_VALID
from seenrules.errors import DoesNotFit, InvalidAnswer, InvalidCase, InvalidClass, InvalidLog, TooMany
from seenrules.kinds import Kind
from seenrules.logs import Log
from seenrules.maps import case_in, class_of, classes_of, gained, sure_map
from seenrules.verdicts import possible

NEVER_LOGS = [value for value in NEVER_VALID if not isinstance(value, Log)] + NO_LOGS
NO_CASES = [*NEVER_VALID, ["b", "d"], ("b",), ("b", "d", "d"), ("b", 1), (), [], "b d", PAIR, 0, 1]
MIXED = Kind([("x", "word"), ("n", "number")], ["no", "yes"], width=0)
EXAMPLE = Log(MIXED, [(("b", 3), "yes"), (("a", 9999), "yes")])
NUMBER = Kind([("n", "number")], TWO)


def log_of_numbers(numbers):
    """Return a log with these numbers in its only field."""
    return Log(NUMBER, [((number,), "no") for number in numbers])


@functools.lru_cache(maxsize=None)
def parts_by_value(sort, values):
    """Return the parts of a field by looking at all numbers one after another, or at the words."""
    if sort == "word":
        return [("is", word) for word in sorted(set(values))] + [("other",)]
    groups = itertools.groupby(range(-9999, 10000), lambda number: number if number in values else None)
    runs = []
    for key, numbers in groups:
        run = list(numbers)
        runs.append(("from", run[0], run[-1]))
    return runs


def all_classes(log):
    """Return all classes of a log by such parts."""
    columns = [tuple(case[place] for case, answer in log.entries()) for place in range(len(log.kind.names()))]
    return list(itertools.product(*[parts_by_value(sort, values) for (name, sort), values in zip(log.kind.fields(), columns)]))


def belongs(log, case, value):
    """Tell whether a case belongs to a class, by the words of the document."""
    for place, part in enumerate(value):
        known = [other[place] for other, answer in log.entries()]
        if part[0] == "is" and case[place] != part[1] or part[0] == "other" and case[place] in known:
            return False
        if part[0] == "from" and not part[1] <= case[place] <= part[2]:
            return False
    return True


def answers_for(log, case):
    """Return the possible answers for a case by looking for cores."""
    return [answer for answer in log.kind.answers() if not greatest_core(log.kind, [*log.entries(), (case, answer)])]


class ClassesTest(CheckedCase):
    def check(self, log):
        found = classes_of(log)
        self.assertIs(type(found), list)
        self.assertEqual(found, all_classes(log))
        for value in found:
            self.assertEqual({type(item) for item in (value, *value)} | {tuple}, {tuple})
            case = case_in(log, value)
            self.assertTrue(log.kind.is_case(case))
            self.assertTrue(belongs(log, case, value))
            self.assertEqual(class_of(log, case), value)
        for case in cases_beside(log.kind, log.cases(), []):
            self.assertEqual([value for value in found if belongs(log, case, value)], [class_of(log, case)])

    def test_examples(self):
        parts = [("is", "b"), ("other",)], [("from", -9999, 2), ("from", 3, 3), ("from", 4, 9999)]
        self.assertEqual(classes_of(EXAMPLE.stretch(0, 1)), list(itertools.product(*parts)))
        self.assertEqual([class_of(EXAMPLE, ("c", 5)), len(classes_of(EXAMPLE))], [(("other",), ("from", 4, 9998)), 12])

    def test_numbers(self):
        for numbers in ([], [-9999], [9999], [-9999, 9999], [-9998, 9998], [3, 4], [5, 3, 4], [-9999, -9998, 0, 9998, 9999], [7, 7, -7]):
            self.check(log_of_numbers(numbers))
        every = log_of_numbers([-9999, -5, -4, 0, 2, 9999])
        shown = [(-9999, -9999), (-9998, -6), (-5, -5), (-4, -4), (-3, -1), (0, 0), (1, 1), (2, 2), (3, 9998), (9999, 9999)]
        self.assertEqual(classes_of(every), [(("from", low, high),) for low, high in shown])

    def test_words(self):
        kind = Kind([("x", "word")], TWO)
        log = Log(kind, [((word,), "no") for word in ("b", "ab", "a", "b", "z", "zz", "if")])
        self.assertEqual(classes_of(log), [(("is", word),) for word in ("a", "ab", "b", "if", "z", "zz")] + [(("other",),)])
        self.check(log)
        self.assertEqual(case_in(log, (("other",),)), ("c",))
        self.assertEqual(class_of(log, ("other",)), (("other",),))
        self.assertEqual(class_of(log + [(("other",), "no")], ("other",)), (("is", "other"),))

    def test_drawn_logs(self):
        counts = set()
        for log in drawn_logs(81, (0, 1, 2, 3, 9)):
            values = all_classes(log)
            if len(values) <= 60:
                self.check(log)
                counts.add(len(log.kind.names()))
            else:
                self.assert_too_many(len(values), classes_of, log)
                for value in random.Random(len(values)).sample(values, 10):
                    self.assertEqual(class_of(log, case_in(log, value)), value)
        self.assertEqual(counts, {0, 1, 2, 3, 4})

    def test_no_fields(self):
        for log in (Log(BARE), Log(BARE, [((), "a"), ((), "b")])):
            self.assertEqual([classes_of(log), class_of(log, ()), case_in(log, ())], [[()], (), ()])

    def test_60_and_more(self):
        # Five numbers and four words make 60 classes.
        kind = Kind([("n", "number"), ("x", "word")], TWO)
        rows = [(0, "a"), (2, "b"), (4, "c"), (6, "d"), (8, "a"), (9999, "b"), (9998, "c")]
        log = Log(kind, [(row, "no") for row in rows])
        self.assertEqual(len(all_classes(log.stretch(0, 6))), 60)
        self.check(log.stretch(0, 6))
        self.assert_too_many(65, classes_of, log)
        self.assertEqual(case_in(log, (("from", 9, 9997), ("other",))), (9, "e"))
        four = Kind([(name, "number") for name in "abcd"], TWO)
        log = Log(four, [((number * 2, number * 3, -number, number), "no") for number in range(17)])
        self.assert_too_many(len(all_classes(log)), classes_of, log)
        self.assertEqual(class_of(log, (-9999, 1, 1, 17)), (("from", -9999, -1), ("from", 1, 2), ("from", 1, 9999), ("from", 17, 9999)))

    def test_results_are_new(self):
        classes_of(EXAMPLE).clear()
        self.assertEqual(len(classes_of(log=EXAMPLE)), 12)

    def test_no_classes(self):
        value = (("is", "b"), ("from", 3, 3))
        self.assertEqual(case_in(value=value, log=EXAMPLE), ("b", 3))
        wrong = [list(value), value[:1], (*value, ("other",)), value[::-1], (["is", "b"], value[1]), (value[0], ["from", 3, 3]), (), "b", ("b", 3)]
        wrong += [(("is", "c"), value[1]), (("is",), value[1]), (("other", "b"), value[1]), ("other", value[1]), (("not", "b"), value[1])]
        wrong += [(value[0], part) for part in (("from", 3, 4), ("from", 2, 3), ("from", 3), ("is", 3), ("from", "3", "3"), ("other",), None, 3)]
        wrong += [(value[0], part) for part in (("from", 4, 9999), ("from", 4, 10000), ("From", 3, 3), ("from", -9999, 3), ("from", 3, 3, 3))]
        for item in [*NEVER_VALID, *wrong, EXAMPLE, value[0]]:
            self.assert_raises_holding(InvalidClass, item, case_in, EXAMPLE, item)
        log = log_of_numbers([0, 1])
        for low, high in itertools.product((False, True, 0, 1), repeat=2):
            value = (("from", low, high),)
            if type(low) is int and low is high:
                self.assertEqual(case_in(log, value), (low,))
            else:
                self.assert_raises_holding(InvalidClass, value, case_in, log, value)
        for item in NEVER_VALID:
            self.assert_raises_holding(InvalidClass, item, case_in, Log(PAIR), item)

    def test_wrong_arguments(self):
        for value in NEVER_LOGS:
            self.assert_raises_holding(InvalidLog, value, classes_of, value)
            self.assert_raises_holding(InvalidLog, value, class_of, value, None)
            self.assert_raises_holding(InvalidLog, value, case_in, value, None)
        for value in NO_CASES:
            self.assert_raises_holding(InvalidCase, value, class_of, CORNER, value)
        self.assertEqual(class_of(case=("a", "z"), log=CORNER), (("is", "a"), ("other",)))


class MapCase(CheckedCase):
    def check_evidence(self, log, call, *arguments):
        with self.assertRaises(DoesNotFit) as caught:
            call(*arguments)
        evidence = caught.exception.evidence
        self.assertEqual(evidence, sorted(set(evidence)))
        self.assertTrue(are_core(log.kind, log.entries(), frozenset(evidence)))


class SureMapTest(MapCase):
    def check(self, log):
        found = sure_map(log)
        self.assertEqual({type(item) for item in found} | {tuple}, {tuple})
        self.assertEqual([value for value, answers in found], all_classes(log))
        for value, answers in found:
            self.assertIs(type(answers), list)
            self.assertEqual(answers, answers_for(log, case_in(log, value)))
        return [answers for value, answers in found]

    def check_all_cases(self, log):
        found = dict(sure_map(log))
        for case in cases_beside(log.kind, log.cases(), []):
            self.assertEqual(found[class_of(log, case)], answers_for(log, case))

    def test_example(self):
        shown = [((("is", "b"), ("is", "c")), ["no"]), ((("is", "b"), ("is", "d")), ["no"])]
        self.assertEqual(sure_map(CORNER)[3:5], shown)
        self.check(CORNER)
        self.check_all_cases(CORNER)

    def test_drawn_logs(self):
        counts = set()
        for log in drawn_logs(82, (0, 1, 2, 3, 6)) + drawn_logs(83, (3,), FIVE) + logs_of_lists(83, (4, 16), TWO):
            if len(all_classes(log)) > 60:
                self.assert_too_many(len(all_classes(log)), sure_map, log)
            elif greatest_core(log.kind, log.entries()):
                self.check_evidence(log, sure_map, log)
            else:
                counts |= {len(answers) for answers in self.check(log)}
        self.assertEqual(counts, {1, 2, 3, 5})

    def test_all_cases_have_the_answers_of_their_class(self):
        kind = Kind(MIXED.fields(), FIVE)
        rows = [("a", 1, "no"), ("a", 9, "no"), ("b", 1, "yes"), ("b", 5, "no"), ("c", 5, "no"), ("c", 9, "yes")]
        log = Log(kind, [((x, n), answer) for x, n, answer in rows])
        for width in (1, 2):
            self.check(log.with_width(width))
            self.check_all_cases(log.with_width(width))

    def test_16_entries(self):
        log = log_of_numbers(range(0, 32, 2)).replaced(3, "yes")
        self.assertEqual(len(self.check(log)), 33)
        self.assertEqual(self.check(Log(BARE, [((), "a")] * 16)), [["a"]])
        self.assertEqual(self.check(Log(BARE)), [["a", "b"]])

    def test_too_many(self):
        full = log_of_numbers([0] * 17)
        self.assert_too_many(18, sure_map, full)
        self.assert_too_many(18, sure_map, full.replaced(2, "yes"))
        wide = Log(Kind([("n", "number"), ("m", "number")], TWO), [((number * 2, number * 3), "no") for number in range(16)])
        self.assert_too_many(33 * 33, sure_map, wide)
        # The classes are counted before the log is looked at for a core.
        self.assert_too_many(31 * 31, sure_map, wide.without(0) + [((2, 3), "yes")])

    def test_does_not_fit(self):
        for log in (SQUARE, Log(BARE, [((), "a"), ((), "b")])):
            self.check_evidence(log, sure_map, log)

    def test_results_are_new(self):
        found = sure_map(CORNER)
        expected = [(value, list(answers)) for value, answers in found]
        for at, item in enumerate(found):
            item[1].append("none")
            self.assertEqual(found[at + 1 :], expected[at + 1 :])
        found.clear()
        self.assertEqual(sure_map(log=CORNER), expected)

    def test_wrong_arguments(self):
        for value in NEVER_LOGS:
            self.assert_raises_holding(InvalidLog, value, sure_map, value)


class GainedTest(MapCase):
    def check(self, log, case, answer):
        longer = log + [(case, answer)]
        expected = []
        for value in all_classes(longer):
            inside = case_in(longer, value)
            if len(answers_for(longer, inside)) == 1 and len(answers_for(log, inside)) > 1:
                expected.append(value)
        found = gained(log, case, answer)
        self.assertIs(type(found), list)
        self.assertEqual(found, expected)
        return found

    def test_examples(self):
        self.assertEqual(len(self.check(EXAMPLE.stretch(0, 0), ("b", 3), "no")), 6)
        shown = [(("is", "b"), ("is", "c")), (("is", "b"), ("is", "d"))]
        self.assertEqual(self.check(CORNER.stretch(0, 2), ("b", "c"), "no"), shown)

    def test_drawn_logs(self):
        draw = random.Random(84)
        counts = set()
        for log in drawn_logs(84, (0, 1, 3, 5)) + logs_of_lists(85, (2, 4, 15), FIVE):
            case, answer = draw.choice([drawn_case(draw, log.kind), *log.cases()]), draw.choice(log.kind.answers())
            longer = log + [(case, answer)]
            if len(all_classes(longer)) > 60:
                self.assert_too_many(len(all_classes(longer)), gained, log, case, answer)
            elif greatest_core(log.kind, longer.entries()):
                self.check_evidence(longer, gained, log, case, answer)
            else:
                counts.add(min(len(self.check(log, case, answer)), 2))
        self.assertEqual(counts, {0, 1, 2})

    def test_nothing_new(self):
        self.assertEqual(self.check(CORNER, ("b", "d"), "no"), [])
        self.assertEqual(possible(CORNER, ("b", "d")), ["no"])

    def test_15_and_16_entries(self):
        log = log_of_numbers(range(0, 32, 2))
        self.assertEqual(self.check(log.without(0), (40,), "yes"), [(("from", 40, 40),)])
        self.assert_too_many(18, gained, log, (40,), "yes")
        self.assert_too_many(18, gained, log, (0,), "yes")
        self.assert_too_many(18, gained, log + [((0,), "no")], (0,), "yes")

    def test_too_many_classes(self):
        kind = Kind([("n", "number"), ("m", "number")], TWO)
        log = Log(kind, [((0, 0), "no"), ((2, 2), "no"), ((4, 4), "no")])
        self.assertEqual(len(all_classes(log)), 49)
        self.assert_too_many(81, gained, log, (6, 6), "no")
        self.assert_too_many(63, gained, log, (6, 0), "yes")
        self.check(log, (2, 0), "yes")
        # The classes are counted before the log is looked at for a core.
        self.assert_too_many(63, gained, log + [((0, 0), "yes")], (6, 0), "yes")
        self.check_evidence(log + [((0, 0), "yes")], gained, log, (0, 0), "yes")

    def test_does_not_fit(self):
        self.check_evidence(SQUARE.stretch(0, 4), gained, CORNER, ("b", "d"), "yes")
        self.check_evidence(SQUARE + [(("a", "c"), "yes")], gained, SQUARE, ("a", "c"), "yes")

    def test_wrong_arguments(self):
        for value in NEVER_LOGS:
            self.assert_raises_holding(InvalidLog, value, gained, value, None, None)
        for log in (CORNER, SQUARE, Log(PAIR, [(("a", "c"), "yes")] * 17)):
            for value in NO_CASES:
                self.assert_raises_holding(InvalidCase, value, gained, log, value, None)
            for value in [*NEVER_VALID, "maybe", "No", ["no"], ("no",), 0, log]:
                self.assert_raises_holding(InvalidAnswer, value, gained, log, ("a", "c"), value)
        self.assertEqual(gained(answer="no", case=("b", "d"), log=CORNER), [])


if __name__ == "__main__":
    unittest.main()
