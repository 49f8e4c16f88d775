import itertools
import random
import unittest

from checks import CheckedCase
from reckoning import HOLDS, are_met, cases_beside, decider, drawn_rules, kinds
from samples_of_values import NEVER_VALID
from seenrules.comparing import alike, dead_rules, may_swap, shortened
from seenrules.errors import InvalidList, NoRule, OtherKind
from seenrules.kinds import Kind
from seenrules.rulelists import RuleList

MAIL = Kind([("from", "word"), ("size", "number")], ["inbox", "later"], width=2)
FILTERS = RuleList.parse(MAIL, "inbox if from is ann and size most 9\nlater if size least 5\ninbox")
OTHER = RuleList.parse(MAIL, "later if size least 10\ninbox if from is ann\nlater if size least 5\ninbox")
LONGER_TEXT = "inbox if size most 4\nlater if size most 4\nlater if from not ann\nlater if size least 10\ninbox"
LONGER = RuleList.parse(MAIL, LONGER_TEXT)
BARE = Kind([], ["a", "b"], width=0)
FOUR = Kind([("k", "number"), ("l", "number"), ("m", "number"), ("x", "word")], ["no", "yes"], width=2)
NO_LISTS = [value for value in NEVER_VALID if not isinstance(value, RuleList)]
NO_LISTS += [0, 1, "a", [], (), MAIL, str(FILTERS), FILTERS.rules(), [FILTERS], (FILTERS, FILTERS)]


def parsed(*lines):
    """Return a rule list of mails."""
    return RuleList.parse(MAIL, "\n".join(lines))


def many_groups(counts, width=2, answer="no"):
    """Return a rule list whose tests divide the four fields into these numbers of groups."""
    tests = []
    for (name, sort), count in zip(FOUR.fields(), counts):
        for at in range(count - 1):
            tests.append((name, "is", "abcdefghijklmnopqrstuvwxyz"[at]) if sort == "word" else (name, "most", at))
    rules = [(tests[at : at + width], answer) for at in range(0, len(tests), width)]
    return RuleList(FOUR.with_width(width), [*rules, ([], "yes")])


def all_tests(*lists):
    """Return all tests of some rule lists."""
    return [test for one in lists for tests, answer in one.rules() for test in tests]


def size_of(kind, tests):
    """Return the size by looking at every number."""
    size = 1
    for name, sort in kind.fields():
        own = [test for test in tests if test[0] == name]
        if sort == "word":
            size *= len({word for own_name, sign, word in own}) + 1
        else:
            met = [[HOLDS[sign](number, limit) for own_name, sign, limit in own] for number in range(-9999, 10000)]
            size *= 1 + sum(one != other for one, other in zip(met, met[1:]))
    return size


def answers_of(rules, kind, cases):
    """Return the answers that rules give to some cases."""
    return [rules[decider(kind, rules, case)][1] for case in cases]


def drawn_lists(seed, count):
    """Yield rule lists that are not too long to be compared on all cases that matter."""
    draw = random.Random(seed)
    for kind in kinds():
        if len(kind.names()) < 4:
            for turn in range(count):
                yield RuleList(kind, drawn_rules(draw, kind, draw.choice((1, 2, 3, 4, 6))))


def without(rules, index):
    """Return the rules without one."""
    return rules[:index] + rules[index + 1 :]


class AlikeTest(CheckedCase):
    def check_unlike(self, one, other):
        word, case = alike(one, other)
        self.assertEqual(word, "unlike")
        self.assertTrue(one.kind.is_case(case))
        self.assertNotEqual(one(case), other(case))

    def test_example(self):
        self.assertEqual([alike(FILTERS, OTHER), alike(LONGER, FILTERS)], [("alike",), ("alike",)])

    def test_unlike_for_one_word_or_one_number_only(self):
        self.check_unlike(FILTERS, parsed("later if from is a and size most -9999", *str(FILTERS).split("\n")))
        for number in (-9999, 0, 9999):
            lines = [f"later if size most {number}", f"inbox if size least {number}", "later"]
            one, other = parsed(*lines), parsed(lines[1], lines[0], lines[2])
            self.check_unlike(one, other)
            self.assertEqual(alike(one, other)[1][1], number)
        one, other = parsed("inbox if from not ann", "later"), parsed("inbox")
        self.check_unlike(one, other)
        self.assertEqual(alike(one, other)[1][0], "ann")

    def test_unlike_for_all_words_but_the_named_ones(self):
        names = list("abcdefghijklmnopqrstuvwxyz")
        for width in (1, 2):
            one = RuleList.parse(MAIL.with_width(width), "\n".join([f"later if from is {name}" for name in names[:23]]) + "\nlater")
            other = RuleList(one.kind, [*one.rules()[:-1], ([], "inbox")])
            self.check_unlike(one, other)

    def test_all_words_of_two_full_lists(self):
        words = [first + last for first in ["", "a", "b", "c"] for last in "abcdefghijklmnopqrstuvwxyz"][:92]
        pairs = [[("from", "not", word) for word in words[at : at + 2]] for at in range(0, 92, 2)]
        one = RuleList(MAIL, [*[(tests, "later") for tests in pairs[:23]], ([], "inbox")])
        other = RuleList(MAIL, [*[(tests, "later") for tests in pairs[23:]], ([], "inbox")])
        self.assertEqual(alike(one, other), ("alike",))
        other = RuleList(MAIL, [*[(tests, "inbox") for tests in pairs[23:]], ([], "inbox")])
        self.check_unlike(one, other)

    def test_no_fields_and_width_zero(self):
        lists = [RuleList(BARE, [([], "b"), ([], "a")]), RuleList(BARE, [([], "b")]), RuleList(BARE, [([], "a"), ([], "b")])]
        self.assertEqual([alike(lists[0], lists[1]), alike(lists[1], lists[2])], [("alike",), ("unlike", ())])

    def test_drawn_pairs(self):
        lists = list(drawn_lists(35, 12))
        for one, other in zip(lists, lists[1:]):
            if one.kind == other.kind and size_of(one.kind, all_tests(one, other)) <= 2000:
                cases = cases_beside(one.kind, [], all_tests(one, other))
                same = answers_of(one.rules(), one.kind, cases) == answers_of(other.rules(), one.kind, cases)
                if same:
                    self.assertEqual(alike(one, other), ("alike",))
                else:
                    self.check_unlike(one, other)

    def test_wrong_arguments(self):
        for value in NO_LISTS:
            self.assert_raises_holding(InvalidList, value, alike, value, FILTERS)
            self.assert_raises_holding(InvalidList, value, alike, FILTERS, value)
        self.assert_raises_holding(InvalidList, MAIL, alike, MAIL, None)

    def test_other_kinds(self):
        for kind in (MAIL.with_width(1), MAIL.projected(["size"]), BARE, Kind(MAIL.fields(), ["later", "inbox"], width=2)):
            other = RuleList(kind, [([], kind.answers()[0])])
            self.assert_raises_holding(OtherKind, other, alike, FILTERS, other)

    def test_named_arguments(self):
        self.assertEqual(alike(other=OTHER, one=FILTERS), ("alike",))


class SizeTest(CheckedCase):
    def test_exactly_2000(self):
        full = many_groups((10, 10, 5, 4))
        self.assertEqual(size_of(FOUR, all_tests(full)), 2000)
        self.assertEqual(alike(full, full), ("alike",))
        self.assertEqual(alike(shortened(full), full), ("alike",))
        self.assertIs(may_swap(full, 0), True)
        self.assertEqual(alike(many_groups((10, 10, 1, 1)), many_groups((1, 1, 5, 4), answer="yes"))[0], "unlike")

    def test_above_2000(self):
        for counts, size in (((11, 14, 13, 1), 2002), ((10, 10, 7, 3), 2100), ((12, 12, 12, 12), 20736)):
            rule_list = many_groups(counts)
            self.assertEqual(size_of(FOUR, all_tests(rule_list)), size)
            self.assert_too_many(size, dead_rules, rule_list)
            self.assert_too_many(size, may_swap, rule_list, 0)
            self.assert_too_many(size, shortened, rule_list)
            self.assert_too_many(size, alike, rule_list, rule_list)

    def test_both_lists_count_together(self):
        one = many_groups((23, 3, 1, 1))
        other = RuleList(FOUR, [([("m", "most", at), ("m", "least", at + 15)], "no") for at in range(14)] + [([], "yes")])
        size = size_of(FOUR, all_tests(one, other))
        self.assertEqual(size, 23 * 3 * 29)
        self.assert_too_many(2001, alike, one, other)
        self.assert_too_many(2001, alike, other, one)
        self.assertEqual([alike(one, one), alike(other, other)], [("alike",), ("alike",)])

    def test_equal_tests_divide_once(self):
        full = many_groups((10, 10, 5, 4))
        self.assertEqual(alike(full, RuleList(FOUR, full.rules())), ("alike",))

    def test_most_and_least_at_one_place_and_tests_that_every_case_meets(self):
        # 2 * 10 * 10 * 10 groups with the tests on k that divide it once.
        tests = [("k", "most", 4), ("k", "least", 5), ("k", "most", 9999), ("k", "least", -9999)]
        rest = many_groups((1, 10, 10, 10)).rules()
        full = RuleList(FOUR, [(tests[:2], "no"), (tests[2:], "no"), *rest])
        self.assertEqual(size_of(FOUR, all_tests(full)), 2000)
        self.assertEqual(alike(full, full), ("alike",))
        self.assertEqual(dead_rules(full), [0, *range(2, len(full))])
        for more in (("k", "most", 5), ("k", "least", 4), ("k", "most", -9999), ("k", "least", 9999), ("x", "not", "zz")):
            above = RuleList(FOUR, [(tests[:2], "no"), ([tests[2], more], "no"), *rest])
            size = 2200 if more[0] == "x" else 3000
            self.assertEqual(size_of(FOUR, all_tests(above)), size)
            self.assert_too_many(size, dead_rules, above)

    def test_ends_of_the_numbers(self):
        rest = many_groups((1, 10, 10, 10)).rules()
        for test in (("k", "most", 9998), ("k", "least", -9998), ("k", "most", -9999), ("k", "least", 9999)):
            full = RuleList(FOUR, [([test], "yes"), *rest])
            self.assertEqual(size_of(FOUR, all_tests(full)), 2000)
            self.assertEqual(dead_rules(full)[:1] == [0], False)

    def test_is_and_not_of_a_word_divide_once(self):
        rest = many_groups((10, 10, 10, 1)).rules()
        full = RuleList(FOUR, [([("x", "is", "a"), ("x", "not", "a")], "yes"), *rest])
        self.assertEqual(dead_rules(full)[0], 0)
        above = RuleList(FOUR, [([("x", "is", "a"), ("x", "not", "b")], "yes"), *rest])
        self.assert_too_many(3000, dead_rules, above)

    def test_drawn_sizes(self):
        for one in list(drawn_lists(34, 2)) + [many_groups((11, 14, 13, 1)), many_groups((15, 15, 2, 5))]:
            size = size_of(one.kind, all_tests(one))
            if size > 2000:
                self.assert_too_many(size, shortened, one)
            else:
                self.assertEqual(alike(shortened(one), one), ("alike",))

    def test_too_many_comes_last(self):
        above = many_groups((11, 14, 13, 1))
        other = RuleList(FOUR.with_width(1), [([], "no")])
        self.assert_raises_holding(OtherKind, other, alike, above, other)
        self.assert_raises_holding(InvalidList, None, alike, above, None)
        self.assert_raises_holding(NoRule, 23, may_swap, above, 23)


class DeadRulesTest(CheckedCase):
    def test_example(self):
        self.assertEqual([dead_rules(OTHER), dead_rules(LONGER)], [[], [1]])

    def test_last_rule(self):
        self.assertEqual(dead_rules(parsed("later if size most 3", "inbox", "later if size least 5", "inbox")), [2, 3])
        self.assertEqual(dead_rules(parsed("later if size most 3", "later if size least 4", "inbox")), [2])
        self.assertEqual(dead_rules(parsed("inbox")), [])
        self.assertEqual(dead_rules(RuleList(BARE, [([], "a")] * 24)), list(range(1, 24)))

    def test_contradicting_tests(self):
        lines = ["later if size most 3 and size least 4", "later if from is a and from not a", "inbox if from is a and from is b"]
        self.assertEqual(dead_rules(parsed(*lines, "inbox")), [0, 1, 2])

    def test_covered_by_several_rules(self):
        lines = ["later if size most 3", "inbox if size least 6", "later if size least 4 and size most 5", "later if from is a"]
        self.assertEqual(dead_rules(parsed(*lines, "inbox")), [3, 4])
        self.assertEqual(dead_rules(parsed("later if from not a", "inbox if from is a", "later")), [2])

    def test_drawn(self):
        for one in drawn_lists(36, 12):
            if size_of(one.kind, all_tests(one)) <= 2000:
                deciding = {decider(one.kind, one.rules(), case) for case in cases_beside(one.kind, [], all_tests(one))}
                self.assertEqual(dead_rules(one), [index for index in range(len(one)) if index not in deciding])

    def test_wrong_arguments(self):
        for value in NO_LISTS:
            self.assert_raises_holding(InvalidList, value, dead_rules, value)
        self.assertEqual(dead_rules(rule_list=LONGER), [1])

    def test_results_are_new(self):
        dead_rules(LONGER).clear()
        self.assertEqual(dead_rules(LONGER), [1])


class MaySwapTest(CheckedCase):
    def test_example(self):
        self.assertEqual([may_swap(FILTERS, 0), may_swap(LONGER, 2)], [False, True])

    def test_cases_that_earlier_rules_decide_do_not_count(self):
        lines = ["later if from is ann", "inbox if size most 3", "later if size most 4", "inbox"]
        self.assertEqual([may_swap(parsed(*lines), 0), may_swap(parsed(*lines), 1)], [False, False])
        covered = ["inbox if size most 3", "inbox if size most 3", "later if size most 3", "inbox"]
        self.assertEqual([may_swap(parsed(*covered), 0), may_swap(parsed(*covered), 1)], [True, True])

    def test_no_case_meets_both(self):
        lines = ["inbox if size most 3", "later if size least 4", "inbox"]
        self.assertIs(may_swap(parsed(*lines), 0), True)
        self.assertIs(may_swap(parsed("inbox if size most 4", *lines[1:]), 0), False)

    def test_drawn(self):
        for one in drawn_lists(37, 12):
            if size_of(one.kind, all_tests(one)) <= 2000:
                rules, cases = one.rules(), cases_beside(one.kind, [], all_tests(one))
                before = answers_of(rules, one.kind, cases)
                for at in range(len(one) - 2):
                    other = [*rules[:at], rules[at + 1], rules[at], *rules[at + 2 :]]
                    self.assertIs(may_swap(one, at), answers_of(other, one.kind, cases) == before)

    def test_wrong_arguments(self):
        for value in NO_LISTS:
            self.assert_raises_holding(InvalidList, value, may_swap, value, None)
        for index in [*NEVER_VALID, -1, 3, 4, 5, "0", [0], (0,), [], MAIL, LONGER]:
            self.assert_raises_holding(NoRule, index, may_swap, LONGER, index)
        for lines in (["inbox"], ["later if size most 3", "inbox"]):
            for index in (-2, -1, 0, 1):
                self.assert_raises_holding(NoRule, index, may_swap, parsed(*lines), index)
        self.assertIs(may_swap(index=2, rule_list=LONGER), True)


class ShortenedTest(CheckedCase):
    def check(self, one):
        short = shortened(one)
        kind, rules, kept = one.kind, one.rules(), short.rules()
        cases = cases_beside(kind, [], all_tests(one))
        before = answers_of(rules, kind, cases)
        self.assertEqual(short.kind, kind)
        self.assertEqual(answers_of(kept, kind, cases), before)
        behind = iter(rules)
        self.assertTrue(all(rule in behind for rule in kept))
        self.assertEqual(kept[-1], rules[-1])
        for index in range(len(kept) - 1):
            self.assertNotEqual(answers_of(without(kept, index), kind, cases), before)
        return short

    def test_example(self):
        self.assertEqual(len(shortened(LONGER)), 4)
        self.check(LONGER)

    def test_a_rule_may_be_removed_once_another_one_is(self):
        lines = ["inbox if size most 3", "later if size most 3", "inbox"]
        self.assertEqual(str(self.check(parsed(*lines))), "inbox")
        lines = ["inbox if size most 3", "later if size most 3", "inbox if size most 4", "later if size most 4", "inbox"]
        self.assertEqual(str(self.check(parsed(*lines))), "inbox")

    def test_rules_with_the_answer_of_the_last_one(self):
        self.assertEqual(str(self.check(parsed("inbox if size most 3", "inbox if from is ann", "inbox"))), "inbox")
        self.assertEqual(str(self.check(parsed("later", "inbox"))), "later\ninbox")
        self.assertEqual(str(self.check(parsed("inbox", "later if size most 3", "inbox"))), "inbox")
        self.assertEqual(str(self.check(parsed("inbox"))), "inbox")

    def test_no_fields(self):
        self.assertEqual(str(self.check(RuleList(BARE, [([], "a")] * 23 + [([], "b")]))), "a\nb")

    def test_drawn(self):
        for one in drawn_lists(38, 12):
            if size_of(one.kind, all_tests(one)) <= 2000:
                self.check(one)

    def test_drawn_lists_of_24_rules(self):
        draw = random.Random(39)
        for kind in kinds()[:9]:
            for turn in range(4):
                self.check(RuleList(kind, drawn_rules(draw, kind, 24)))

    def test_the_list_stays(self):
        text = str(LONGER)
        shortened(rule_list=LONGER).rules().clear()
        self.assertEqual(str(LONGER), text)

    def test_wrong_arguments(self):
        for value in NO_LISTS:
            self.assert_raises_holding(InvalidList, value, shortened, value)


class OracleTest(unittest.TestCase):
    def test_the_tests_own_reckoning(self):
        tests = [("size", "most", 4), ("size", "least", 5), ("size", "most", 9999)]
        self.assertEqual(size_of(MAIL, tests), 2)
        self.assertEqual(size_of(BARE, []), 1)
        self.assertTrue(are_met(MAIL, ("a", 4), tests[:1]))
        self.assertEqual(len(list(itertools.islice(drawn_lists(1, 1), 3))), 3)


if __name__ == "__main__":
    unittest.main()
