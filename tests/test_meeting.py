import itertools
import random
import unittest

from checks import CheckedCase
from reckoning import are_met, cases_beside, drawn_case, drawn_test, drawn_tests, is_met, kinds
from samples_of_values import NEVER_VALID
from seenrules.errors import InvalidCase, InvalidKind, InvalidTest, InvalidTests
from seenrules.kinds import Kind
from seenrules.meeting import conditions, implies, meets, strongest

MAIL = Kind([("from", "word"), ("size", "number")], ["inbox", "later"], width=1)
ANN = ("ann", 3)
NO_KINDS = [value for value in NEVER_VALID if not isinstance(value, Kind)] + [0, 1, "a", [], (), [MAIL], (MAIL,), str(MAIL)]
WRONG_CASES = [["ann", 3], ("ann",), ("ann", 3, 3), (3, "ann"), ("ann", True), ("ann", 10000), ("Ann", 3), (), [], "ann 3"]
WRONG_TESTS = [
    ["from", "is", "ann"],
    ("from", "is"),
    ("from", "is", "ann", 1),
    ("from", "most", "ann"),
    ("from", "is", 3),
    ("size", "is", 3),
    ("size", "most", "3"),
    ("size", "most", False),
    ("size", "least", 10000),
    ("other", "is", "ann"),
    (),
    [],
    "from is ann",
]
TESTS = [("from", "is", "ann"), ("from", "not", "bob"), ("size", "most", 3), ("size", "least", -9999)]


class MeetsTest(CheckedCase):
    def check(self, expected, kind, case, tests):
        self.assertIs(meets(kind, case, tests), expected)
        self.assertIs(meets(kind, case, tuple(tests)), expected)

    def test_each_operator(self):
        for test, met, unmet in [
            (("from", "is", "ann"), ["ann"], ["an", "anna", "bob"]),
            (("from", "not", "ann"), ["an", "anna", "bob"], ["ann"]),
            (("size", "most", 3), [-9999, 2, 3], [4, 9999]),
            (("size", "least", 3), [3, 4, 9999], [2, -9999]),
            (("size", "most", 9999), [-9999, 0, 9999], []),
            (("size", "least", -9999), [-9999, 0, 9999], []),
            (("size", "most", -9999), [-9999], [-9998, 9999]),
            (("size", "least", 9999), [9999], [9998, -9999]),
        ]:
            place = MAIL.names().index(test[0])
            for value in met + unmet:
                case = (*ANN[:place], value, *ANN[place + 1 :])
                with self.subTest(test=test, case=case):
                    self.check(value in met, MAIL, case, [test])

    def test_no_tests(self):
        self.check(True, MAIL, ANN, [])
        self.check(True, Kind([], ["a", "b"]), (), [])

    def test_all_tests_count(self):
        self.check(True, MAIL, ANN, TESTS)
        for wrong in [("from", "not", "ann"), ("size", "most", 2), ("size", "least", 4)]:
            for at in range(5):
                self.check(False, MAIL, ANN, [*TESTS[:at], wrong, *TESTS[at:]])

    def test_repeated_and_contradicting_tests(self):
        self.check(True, MAIL, ANN, [TESTS[0], TESTS[0]])
        self.check(False, MAIL, ANN, [("from", "is", "ann"), ("from", "not", "ann")])
        self.check(False, MAIL, ANN, [("from", "is", "ann"), ("from", "is", "bob")])
        self.check(False, MAIL, ANN, [("size", "most", 2), ("size", "least", 3)])

    def test_the_width_does_not_matter(self):
        for width in (0, 1, 2):
            self.check(True, MAIL.with_width(width), ANN, TESTS * 2)

    def test_eight_and_nine_tests(self):
        self.check(True, MAIL, ANN, TESTS * 2)
        for tests in (TESTS * 2 + [TESTS[0]], tuple(TESTS * 2 + [TESTS[0]]), [TESTS[0]] * 110):
            self.assert_raises_holding(InvalidTests, tests, meets, MAIL, ANN, tests)

    def test_drawn(self):
        draw = random.Random(23)
        for kind in kinds():
            for count in range(60):
                case, tests = drawn_case(draw, kind), drawn_tests(draw, kind, 8)
                self.check(are_met(kind, case, tests), kind, case, tests)

    def test_order_of_the_checks(self):
        self.assert_raises_holding(InvalidKind, None, meets, None, [], None)
        case = ("ann",)
        self.assert_raises_holding(InvalidCase, case, meets, MAIL, case, None)

    def test_wrong_arguments(self):
        for kind in NO_KINDS:
            self.assert_raises_holding(InvalidKind, kind, meets, kind, ANN, [])
        for case in [*NEVER_VALID, *WRONG_CASES, 0, 1, MAIL]:
            self.assert_raises_holding(InvalidCase, case, meets, MAIL, case, [])
        for test in [*NEVER_VALID, *WRONG_TESTS, 0, 1, MAIL]:
            for tests in ([test], (test,), [TESTS[0], test], [test, TESTS[0]]):
                self.assert_raises_holding(InvalidTests, tests, meets, MAIL, ANN, tests)
        for tests in [*NEVER_VALID, 0, 1, "a", TESTS[0], list(TESTS[0]), {}, {"from": "is"}]:
            self.assert_raises_holding(InvalidTests, tests, meets, MAIL, ANN, tests)

    def test_named_arguments(self):
        self.assertIs(meets(tests=[TESTS[0]], case=ANN, kind=MAIL), True)

    def test_arguments_stay(self):
        tests = list(TESTS)
        meets(MAIL, ANN, tests)
        self.assertEqual(tests, TESTS)


class StrongestTest(CheckedCase):
    def test_example(self):
        self.assertEqual(strongest(MAIL, ANN), [("from", "is", "ann"), ("size", "most", 3), ("size", "least", 3)])

    def test_fields(self):
        self.assertEqual(strongest(Kind([], ["a", "b"]), ()), [])
        kind = Kind([("n", "number"), ("x", "word"), ("m", "number"), ("y", "word")], ["a", "b"], width=0)
        expected = [("n", "most", -9999), ("n", "least", -9999), ("x", "is", "n"), ("m", "most", 9999)]
        expected += [("m", "least", 9999), ("y", "is", "n")]
        self.assertEqual(strongest(kind, (-9999, "n", 9999, "n")), expected)
        self.assertEqual(strongest(case=ANN, kind=MAIL), strongest(MAIL, ANN))

    def test_new_lists(self):
        first = strongest(MAIL, ANN)
        first.clear()
        self.assertEqual(len(strongest(MAIL, ANN)), 3)

    def test_wrong_arguments(self):
        self.assert_raises_holding(InvalidKind, None, strongest, None, None)
        for kind in NO_KINDS:
            self.assert_raises_holding(InvalidKind, kind, strongest, kind, ANN)
        for case in [*NEVER_VALID, *WRONG_CASES, 0, 1, MAIL]:
            self.assert_raises_holding(InvalidCase, case, strongest, MAIL, case)


class ConditionsTest(CheckedCase):
    def test_example(self):
        self.assertEqual(len(list(conditions(MAIL.with_width(2), ANN))), 7)
        self.assertEqual(list(conditions(MAIL.with_width(0), ANN)), [[]])

    def test_order(self):
        word, most, least = strongest(MAIL, ANN)
        self.assertEqual(list(conditions(MAIL, ANN)), [[], [word], [most], [least]])
        pairs = [[word, most], [word, least], [most, least]]
        self.assertEqual(list(conditions(MAIL.with_width(2), ANN)), [[], [word], [most], [least], *pairs])

    def test_all_kinds(self):
        draw = random.Random(24)
        for kind in kinds():
            case = drawn_case(draw, kind)
            tests = strongest(kind, case)
            expected = [list(chosen) for length in range(kind.width + 1) for chosen in itertools.combinations(tests, length)]
            self.assertEqual(list(conditions(case=case, kind=kind)), expected)

    def test_equal_values_in_two_fields(self):
        kind = Kind([("x", "word"), ("y", "word")], ["a", "b"], width=2)
        x, y = ("x", "is", "a"), ("y", "is", "a")
        self.assertEqual(list(conditions(kind, ("a", "a"))), [[], [x], [y], [x, y]])

    def test_each_item_is_a_new_list(self):
        kind = MAIL.with_width(2)
        expected = list(conditions(kind, ANN))
        found = []
        for tests in conditions(kind, ANN):
            found.append(list(tests))
            tests.append(None)
        self.assertEqual(found, expected)
        self.assertEqual(len({id(tests) for tests in expected}), len(expected))
        self.assertEqual(list(conditions(kind, ANN)), expected)

    def test_two_at_once(self):
        kind = MAIL.with_width(2)
        one, other = conditions(kind, ANN), conditions(kind, ("bob", 4))
        found = list(itertools.zip_longest(one, other))
        self.assertEqual(found, list(zip(list(conditions(kind, ANN)), list(conditions(kind, ("bob", 4))))))

    def test_raises_when_the_first_item_is_asked_for(self):
        for kind in NO_KINDS:
            generator = conditions(kind, None)
            self.assert_raises_holding(InvalidKind, kind, next, generator)
        for case in [*NEVER_VALID, *WRONG_CASES, 0, 1, MAIL]:
            generator = conditions(MAIL, case)
            self.assert_raises_holding(InvalidCase, case, next, generator)


class ImpliesTest(CheckedCase):
    def test_example(self):
        self.assertIs(implies(MAIL, ("from", "is", "ann"), ("from", "not", "bob")), True)
        self.assertIs(implies(MAIL, ("size", "most", 3), ("size", "most", 2)), False)
        self.assertIs(implies(MAIL, ("from", "not", "bob"), ("size", "least", -9999)), True)

    def test_tests_that_every_case_meets(self):
        for test in TESTS:
            self.assertIs(implies(MAIL, test, ("size", "least", -9999)), True)
            self.assertIs(implies(MAIL, test, ("size", "most", 9999)), True)
            self.assertIs(implies(MAIL, ("size", "most", 9999), test), test == TESTS[3])

    def test_ends_of_the_numbers(self):
        self.assertIs(implies(MAIL, ("size", "most", -9999), ("size", "most", 5)), True)
        self.assertIs(implies(MAIL, ("size", "most", -9999), ("size", "least", -9998)), False)
        self.assertIs(implies(MAIL, ("size", "least", 9999), ("size", "least", 5)), True)
        self.assertIs(implies(MAIL, ("size", "least", 9999), ("size", "most", 9998)), False)

    def test_all_pairs_of_drawn_tests(self):
        draw = random.Random(25)
        for kind in kinds()[3:]:
            tests = sorted({drawn_test(draw, kind) for count in range(30)}, key=str)
            for one, other in itertools.product(tests, tests):
                cases = [case for case in cases_beside(kind.projected(sorted({one[0], other[0]})), [], [one, other])]
                small = kind.projected(sorted({one[0], other[0]}))
                expected = all(is_met(small, case, other) for case in cases if is_met(small, case, one))
                with self.subTest(one=one, other=other):
                    self.assertIs(implies(kind, one, other), expected)

    def test_a_strongest_test_implies_each_test_that_is_met(self):
        draw = random.Random(26)
        for kind in kinds()[3:]:
            for count in range(40):
                case, test = drawn_case(draw, kind), drawn_test(draw, kind)
                implied = any(implies(kind, strong, test) for strong in strongest(kind, case))
                self.assertIs(implied, is_met(kind, case, test))

    def test_order_of_the_checks(self):
        self.assert_raises_holding(InvalidKind, None, implies, None, None, None)
        wrong = ("size", "is", 3)
        self.assert_raises_holding(InvalidTest, wrong, implies, MAIL, wrong, None)

    def test_wrong_arguments(self):
        for kind in NO_KINDS:
            self.assert_raises_holding(InvalidKind, kind, implies, kind, TESTS[0], TESTS[0])
        for test in [*NEVER_VALID, *WRONG_TESTS, 0, 1, MAIL, TESTS]:
            self.assert_raises_holding(InvalidTest, test, implies, MAIL, test, TESTS[0])
            self.assert_raises_holding(InvalidTest, test, implies, MAIL, TESTS[0], test)

    def test_named_arguments(self):
        self.assertIs(implies(other=TESTS[1], one=TESTS[0], kind=MAIL), True)


if __name__ == "__main__":
    unittest.main()
