import itertools
import random
import re
import unittest

from checks import CheckedCase
from reckoning import decider, drawn_case, drawn_rules, is_met, kinds
from samples_of_values import NEVER_VALID
from seenrules.errors import InvalidCase, InvalidKind, InvalidRules, InvalidText, NoRule
from seenrules.kinds import Kind
from seenrules.rulelists import RuleList

MAIL = Kind([("from", "word"), ("size", "number")], ["inbox", "later"], width=2)
TEXT = "inbox if from is ann and size most 9\nlater if size least 5\ninbox"
RULES = [([("from", "is", "ann"), ("size", "most", 9)], "inbox"), ([("size", "least", 5)], "later"), ([], "inbox")]
BARE = Kind([], ["a", "b"], width=0)
LAST = ([], "inbox")
NO_KINDS = [value for value in NEVER_VALID if not isinstance(value, Kind)] + [0, 1, "a", [], (), [MAIL], str(MAIL)]
WRONG_CASES = [["ann", 3], ("ann",), ("ann", 3, 3), (3, "ann"), ("ann", True), ("ann", 10000), ("Ann", 3), (), [], MAIL]
WRONG_RULES = [
    [[], "inbox"],
    ([],),
    ([], "inbox", 1),
    ([], "never"),
    ([], None),
    ([], ["inbox"]),
    ([], MAIL),
    ("inbox", []),
    ({}, "inbox"),
    ("", "inbox"),
    (None, "inbox"),
    (("from", "is", "ann"), "inbox"),
    ([["from", "is", "ann"]], "inbox"),
    ([("from", "is", 3)], "inbox"),
    ([("from", "most", "ann")], "inbox"),
    ([("size", "most", True)], "inbox"),
    ([("size", "least", 10000)], "inbox"),
    ([("other", "is", "ann")], "inbox"),
    ([("from", "is", "ann")] * 3, "inbox"),
    ([("from", "is", "ann"), None], "inbox"),
    ([()], "inbox"),
]


class CreateTest(CheckedCase):
    def test_ordinary(self):
        rule_list = RuleList(MAIL, RULES)
        self.assertEqual([rule_list.kind, rule_list.rules(), len(rule_list)], [MAIL, RULES, 3])
        self.assertEqual(rule_list, RuleList(rules=RULES, kind=MAIL))

    def test_tuples_for_lists(self):
        rule_list = RuleList(MAIL, tuple((tuple(tests), answer) for tests, answer in RULES))
        self.assertEqual(rule_list, RuleList(MAIL, RULES))
        self.assertEqual(rule_list.rules(), RULES)
        self.assertIs(type(rule_list.rules()), list)
        self.assertEqual([type(rule) for rule in rule_list.rules()], [tuple] * 3)
        self.assertEqual([type(rule[0]) for rule in rule_list.rules()], [list] * 3)
        self.assertIs(type(rule_list[0][0]), list)

    def test_one_and_24_rules(self):
        for count in (1, 2, 23, 24):
            rules = [([("size", "most", at)], "later") for at in range(count - 1)] + [LAST]
            self.assertEqual(RuleList(MAIL, rules).rules(), rules)
            self.assertEqual(len(RuleList(MAIL, rules)), count)
        self.assertEqual(RuleList(BARE, [([], "b")]).rules(), [([], "b")])

    def test_no_and_25_rules(self):
        for rules in ([], (), [LAST] * 25, (LAST,) * 25, [LAST] * 110):
            self.assert_raises_holding(InvalidRules, rules, RuleList, MAIL, rules)

    def test_rules_without_tests_ahead_of_the_last_one(self):
        rules = [([], "later"), ([("size", "most", 3)], "inbox"), ([], "later"), LAST]
        self.assertEqual(RuleList(MAIL, rules).rules(), rules)
        self.assertEqual(RuleList(BARE, [([], "a")] * 24).rules(), [([], "a")] * 24)

    def test_repeated_and_contradicting_tests(self):
        test = ("from", "is", "ann")
        for other in (test, ("from", "not", "ann"), ("from", "is", "bob")):
            rules = [([test, other], "later"), LAST]
            self.assertEqual(RuleList(MAIL, rules).rules(), rules)

    def test_width(self):
        test = ("from", "is", "ann")
        for width in (0, 1, 2):
            kind = MAIL.with_width(width)
            for count in range(4):
                rules = [([test] * count, "inbox"), LAST]
                if count <= width:
                    self.assertEqual(RuleList(kind, rules).rules(), rules)
                else:
                    self.assert_raises_holding(InvalidRules, rules, RuleList, kind, rules)

    def test_the_last_rule_has_no_tests(self):
        for rules in (RULES[:1], RULES[:2], [*RULES, RULES[0]]):
            self.assert_raises_holding(InvalidRules, rules, RuleList, MAIL, rules)

    def test_wrong_arguments(self):
        for kind in NO_KINDS:
            self.assert_raises_holding(InvalidKind, kind, RuleList, kind, RULES)
        for rules in [*NEVER_VALID, 0, 1, "a", LAST, {}, MAIL, TEXT, RuleList(MAIL, RULES), {"a": LAST}, [RuleList(MAIL, RULES)]]:
            self.assert_raises_holding(InvalidRules, rules, RuleList, MAIL, rules)
        for rule in [*NEVER_VALID, *WRONG_RULES, 0, 1, MAIL, "inbox"]:
            for rules in ([rule, LAST], (LAST, rule, LAST), [*RULES, rule]):
                with self.subTest(rules=rules):
                    self.assert_raises_holding(InvalidRules, rules, RuleList, MAIL, rules)

    def test_order_of_the_checks(self):
        self.assert_raises_holding(InvalidKind, None, RuleList, None, None)

    def test_methods_stand_in_the_class_itself(self):
        own = vars(RuleList)
        for name in ("rules", "decided_by", "steps", "__len__", "__getitem__", "__eq__", "__call__", "__str__"):
            self.assertTrue(callable(own[name]))
        self.assertIsInstance(own["kind"], property)
        self.assertIsInstance(own["parse"], classmethod)


class UnchangedTest(CheckedCase):
    def test_passed_lists_may_be_changed(self):
        tests = [("size", "most", 3)]
        rules = [(tests, "later"), ([], "inbox")]
        rule_list = RuleList(MAIL, rules)
        tests.append(("from", "is", "ann"))
        rules[1][0].append(("from", "is", "bob"))
        rules.reverse()
        self.assertEqual(rule_list.rules(), [([("size", "most", 3)], "later"), ([], "inbox")])

    def test_returned_lists_may_be_changed(self):
        rule_list = RuleList(MAIL, RULES)
        for call in (rule_list.rules, lambda: [rule_list[at] for at in range(3)], lambda: rule_list.rules()):
            found = call()
            found[0][0].clear()
            found[2][0].append(("size", "most", 3))
            found.pop()
            self.assertEqual(rule_list.rules(), RULES)
            self.assertEqual(rule_list, RuleList(MAIL, RULES))
            self.assertEqual(rule_list[0], RULES[0])
            self.assertEqual(str(rule_list), TEXT)

    def test_inner_lists_are_all_different(self):
        rule_list = RuleList(MAIL, [([], "later")] * 3)
        lists = [rule[0] for rule in rule_list.rules() + rule_list.rules()] + [rule_list[0][0], rule_list[0][0]]
        self.assertEqual(len({id(tests) for tests in lists}), 8)

    def test_passed_lists_stay(self):
        rules = [(list(tests), answer) for tests, answer in RULES]
        rule_list = RuleList(MAIL, rules)
        list(rule_list.steps(("ann", 12)))
        self.assertEqual(rules, RULES)

    def test_kind_cannot_be_assigned(self):
        with self.assertRaises(AttributeError):
            RuleList(MAIL, RULES).kind = BARE


class IndexTest(CheckedCase):
    def test_rules(self):
        rule_list = RuleList(MAIL, RULES)
        self.assertEqual([rule_list[0], rule_list[1], rule_list[2]], RULES)

    def test_wrong_indexes(self):
        rule_list = RuleList(MAIL, RULES)
        for index in [*NEVER_VALID, -1, -3, 3, 24, "0", "1", [0], (0,), [], (), {}, MAIL, rule_list]:
            with self.subTest(index=index):
                self.assert_raises_holding(NoRule, index, lambda at: rule_list[at], index)
        self.assert_raises_holding(NoRule, 1, lambda at: RuleList(BARE, [([], "a")])[at], 1)


class EqualTest(CheckedCase):
    def test_equal(self):
        self.assert_equality(RuleList(MAIL, RULES), RuleList(Kind.parse(str(MAIL)), tuple(RULES)), True)

    def test_different(self):
        rule_list = RuleList(MAIL, RULES)
        self.assert_equality(rule_list, RuleList(MAIL, [RULES[1], RULES[0], RULES[2]]), False)
        self.assert_equality(rule_list, RuleList(MAIL, [(RULES[0][0][::-1], "inbox"), *RULES[1:]]), False)
        self.assert_equality(rule_list, RuleList(MAIL, [(RULES[0][0], "later"), *RULES[1:]]), False)
        self.assert_equality(rule_list, RuleList(MAIL, [*RULES, LAST]), False)
        self.assert_equality(rule_list, RuleList(MAIL, [*RULES[:2], ([], "later")]), False)
        self.assert_equality(RuleList(MAIL, [LAST]), RuleList(MAIL.with_width(1), [LAST]), False)
        self.assert_equality(RuleList(MAIL, [LAST]), RuleList(MAIL.projected(["size"]), [LAST]), False)

    def test_other_values(self):
        rule_list = RuleList(MAIL, RULES)
        for value in [*NEVER_VALID, 0, 1, [], (), RULES, tuple(RULES), TEXT, MAIL, [rule_list], (MAIL, RULES)]:
            self.assert_equality(rule_list, value, False)

    def test_repr(self):
        self.assertIsInstance(repr(RuleList(MAIL, RULES)), str)


class AnswersTest(CheckedCase):
    def test_example(self):
        filters = RuleList.parse(MAIL, TEXT)
        self.assertEqual([filters(("bob", 5)), filters.decided_by(("bob", 4))], ["later", 2])
        self.assertEqual(list(filters.steps(("ann", 12))), [(0, ("size", "most", 9)), (1, None)])
        self.assertEqual(filters[1], ([("size", "least", 5)], "later"))

    def test_limits_of_the_numbers(self):
        filters = RuleList.parse(MAIL, TEXT)
        cases = [("ann", 9), ("ann", 10), ("bob", 5), ("bob", 4), ("ann", -9999), ("bob", 9999), ("bob", -9999)]
        self.assertEqual([filters.decided_by(case) for case in cases], [0, 1, 1, 2, 0, 1, 2])

    def test_a_rule_without_tests_decides_the_rest(self):
        rule_list = RuleList(MAIL, [RULES[1], ([], "later"), *RULES])
        self.assertEqual([rule_list.decided_by(("ann", 4)), rule_list(("ann", 4))], [1, "later"])
        self.assertEqual(list(rule_list.steps(("ann", 4))), [(0, ("size", "least", 5)), (1, None)])

    def test_no_fields(self):
        rule_list = RuleList(BARE, [([], "b"), ([], "a")])
        self.assertEqual([rule_list(()), rule_list.decided_by(()), list(rule_list.steps(()))], ["b", 0, [(0, None)]])

    def test_drawn(self):
        draw = random.Random(32)
        for kind, count in itertools.product(kinds(), (1, 2, 5, 24)):
            rules = drawn_rules(draw, kind, count)
            rule_list = RuleList(kind, rules)
            for case in [drawn_case(draw, kind) for turn in range(8)]:
                index = decider(kind, rules, case)
                self.assertEqual([rule_list.decided_by(case), rule_list(case)], [index, rules[index][1]])
                unmet = [next(test for test in tests if not is_met(kind, case, test)) for tests, answer in rules[:index]]
                self.assertEqual(list(rule_list.steps(case)), [*enumerate(unmet), (index, None)])

    def test_named_arguments(self):
        filters = RuleList(MAIL, RULES)
        self.assertEqual([filters(case=("bob", 5)), filters.decided_by(case=("bob", 4))], ["later", 2])
        self.assertEqual(len(list(filters.steps(case=("bob", 4)))), 3)

    def test_wrong_cases(self):
        filters = RuleList(MAIL, RULES)
        for case in [*NEVER_VALID, *WRONG_CASES, 0, 1, "ann 3", filters]:
            self.assert_raises_holding(InvalidCase, case, filters, case)
            self.assert_raises_holding(InvalidCase, case, filters.decided_by, case)

    def test_steps_raises_when_the_first_item_is_asked_for(self):
        filters = RuleList(MAIL, RULES)
        for case in [*NEVER_VALID, *WRONG_CASES, 0, 1]:
            generator = filters.steps(case)
            self.assert_raises_holding(InvalidCase, case, next, generator)

    def test_two_generators_at_once(self):
        filters = RuleList(MAIL, RULES)
        cases = [("ann", 12), ("bob", 12)]
        one, other = [filters.steps(case) for case in cases]
        found = list(zip(one, other))
        self.assertEqual(found, list(zip(*[list(filters.steps(case)) for case in cases])))
        self.assertEqual(found, [((0, ("size", "most", 9)), (0, ("from", "is", "ann"))), ((1, None), (1, None))])


WORD = "[a-z]{1,6}"
NUMBER = "(?:0|-?[1-9][0-9]{0,3})"
MAIL_TEST = f"(?:from (?:is|not) {WORD}|size (?:most|least) {NUMBER})"
MAIL_LINE = f"(?:inbox|later)(?: if {MAIL_TEST}(?: and {MAIL_TEST})?)?"
MAIL_TEXT = re.compile(rf"(?:{MAIL_LINE}\n){{0,23}}(?:inbox|later)")


class TextTest(CheckedCase):
    def test_texts(self):
        self.assertEqual(str(RuleList(MAIL, RULES)), TEXT)
        self.assertEqual(RuleList.parse(MAIL, TEXT), RuleList(MAIL, RULES))
        self.assertEqual(str(RuleList(BARE, [([], "a"), ([], "b")])), "a\nb")
        rules = [([("size", "least", -9999), ("size", "most", 9999)], "later"), LAST]
        self.assertEqual(str(RuleList(MAIL, rules)), "later if size least -9999 and size most 9999\ninbox")

    def test_words_that_could_be_mixed_up(self):
        kind = Kind([("and", "word"), ("if", "word"), ("is", "number")], ["if", "and", "is"], width=2)
        rules = [([("and", "is", "and"), ("if", "not", "if")], "if"), ([("is", "most", 0), ("and", "is", "is")], "and"), ([], "is")]
        text = "if if and is and and if not if\nand if is most 0 and and is is\nis"
        self.assertEqual(str(RuleList(kind, rules)), text)
        self.assertEqual(RuleList.parse(kind, text).rules(), rules)

    def test_there_and_back(self):
        draw = random.Random(33)
        for kind, count in itertools.product(kinds(), (1, 2, 3, 24)):
            rules = drawn_rules(draw, kind, count)
            text = str(RuleList(kind, rules))
            parsed = RuleList.parse(text=text, kind=kind)
            self.assertEqual([parsed.rules(), parsed.kind, str(parsed)], [rules, kind, text])
            self.assertIs(type(parsed), RuleList)

    def test_one_character_otherwise(self):
        for text in (TEXT, "later if size least -40\ninbox", "inbox"):
            self.assert_near_texts(text, MAIL_TEXT.fullmatch, lambda other: RuleList.parse(MAIL, other))

    def test_24_and_25_lines(self):
        text = "\n".join(["inbox"] * 24)
        self.assertEqual(len(RuleList.parse(MAIL, text)), 24)
        text = "\n".join(["inbox"] * 25)
        self.assert_raises_holding(InvalidText, text, RuleList.parse, MAIL, text)

    def test_width(self):
        texts = ["inbox", "later if size most 3\ninbox", "later if size most 3 and size most 3\ninbox"]
        texts.append("later if size most 3 and size most 3 and size most 3\ninbox")
        for width, count in itertools.product((0, 1, 2), range(4)):
            kind = MAIL.with_width(width)
            if count <= width:
                self.assertEqual(str(RuleList.parse(kind, texts[count])), texts[count])
            else:
                self.assert_raises_holding(InvalidText, texts[count], RuleList.parse, kind, texts[count])

    def test_texts_of_no_list(self):
        texts = [
            "",
            "\n",
            "inbox\n",
            "\ninbox",
            "inbox\n\ninbox",
            "inbox\ninbox\n",
            " inbox",
            "inbox ",
            "never",
            "inbox if",
            "inbox if ",
            "inbox if size most 3",
            "inbox if size most\ninbox",
            "inbox if size most 3 and\ninbox",
            "inbox if size most 3 and size\ninbox",
            "inbox if size most 3 and size most\ninbox",
            "inbox if size most 3 size most 3\ninbox",
            "inbox if size most 3 or size most 4\ninbox",
            "inbox when size most 3\ninbox",
            "inbox size most 3\ninbox",
            "inbox if size  most 3\ninbox",
            "inbox if size most 03\ninbox",
            "inbox if size most -0\ninbox",
            "inbox if size most 10000\ninbox",
            "inbox if size most +3\ninbox",
            "inbox if size most a\ninbox",
            "inbox if size is 3\ninbox",
            "inbox if from is 3\ninbox",
            "inbox if from most ann\ninbox",
            "inbox if from is Ann\ninbox",
            "inbox if from is abcdefg\ninbox",
            "inbox if from is \ninbox",
            "inbox if to is ann\ninbox",
            "Inbox",
            "inbox if from is ann\n later",
            "x" * 4000,
            "inbox\n" * 666,
            "inbox if " * 444,
        ]
        for text in texts:
            with self.subTest(text):
                self.assertIsNone(MAIL_TEXT.fullmatch(text))
                self.assert_raises_holding(InvalidText, text, RuleList.parse, MAIL, text)

    def test_other_values(self):
        for kind in NO_KINDS:
            self.assert_raises_holding(InvalidKind, kind, RuleList.parse, kind, TEXT)
        self.assert_raises_holding(InvalidKind, None, RuleList.parse, None, None)
        filters = RuleList(MAIL, RULES)
        for text in [*NEVER_VALID, 0, 1, [], (), filters, [TEXT], RULES, (TEXT,), {"text": TEXT}]:
            self.assert_raises_holding(InvalidText, text, RuleList.parse, MAIL, text)
        self.assert_raises_holding(InvalidText, TEXT, RuleList.parse, BARE, TEXT)


if __name__ == "__main__":
    unittest.main()
