import re
import unittest

from checks import CheckedCase
from samples_of_values import NEVER_VALID
from seenrules.errors import InvalidAnswers, InvalidFields, InvalidInteger, InvalidNames, InvalidText, NoField
from seenrules.kinds import Kind

MAIL = [("from", "word"), ("size", "number")]
PLACES = ["inbox", "later"]
FOUR = [("a", "word"), ("abcdef", "number"), ("word", "word"), ("number", "number")]
FIVE = ["v", "w", "x", "y", "zzzzzz"]

WRONG_FIELDS = [
    "",
    "a",
    [("a", "word"), ("b", "word"), ("c", "word"), ("d", "word"), ("e", "word")],
    [("a", "word"), ("a", "word")],
    [("a", "word"), ("b", "word"), ("a", "number")],
    [("", "word")],
    [("abcdefg", "word")],
    [("A", "word")],
    [("a\n", "word")],
    [(1, "word")],
    [(None, "word")],
    [(["a"], "word")],
    [("a", "words")],
    [("a", "Word")],
    [("a", "number\n")],
    [("a", "integer")],
    [("a", "")],
    [("a", None)],
    [("a", ["word"])],
    [("a", 1)],
    [["a", "word"]],
    [("a", "word"), ["b", "word"]],
    ["a", "word"],
    ("a", "word"),
    [("a",)],
    [("a", "word", "word")],
    [()],
    [None],
    {"a": "word"},
    [{"a": "word"}],
    [("a", "word"), None],
    [("a", Kind([], ["a", "b"]))],
    [(Kind([], ["a", "b"]), "word")],
]

WRONG_ANSWERS = [
    [],
    (),
    ["a"],
    ("a",),
    ["a", "b", "c", "d", "e", "f"],
    ["a", "a"],
    ["a", "b", "a"],
    ["a", ""],
    ["a", "abcdefg"],
    ["a", "B"],
    ["a", "b\n"],
    ["a", 1],
    [1, 2],
    ["a", None],
    ["a", ["b"]],
    [["a", "b"]],
    "ab",
    "a b",
    {"a": 1, "b": 2},
    ["a", Kind([], ["a", "b"])],
]

WRONG_WIDTHS = [-1, 3, "1", "", [1], (1,), [], (), {1: 1}]


class CreateTest(CheckedCase):
    def test_ordinary(self):
        kind = Kind(MAIL, PLACES, width=2)
        self.assertEqual(kind.fields(), [("from", "word"), ("size", "number")])
        self.assertEqual(kind.names(), ["from", "size"])
        self.assertEqual(kind.answers(), ["inbox", "later"])
        self.assertEqual(kind.width, 2)

    def test_width_is_one_by_default(self):
        self.assertEqual(Kind(MAIL, PLACES).width, 1)

    def test_all_widths(self):
        for width in (0, 1, 2):
            self.assertEqual(Kind(MAIL, PLACES, width=width).width, width)

    def test_no_fields_and_two_answers(self):
        kind = Kind([], ["a", "b"])
        self.assertEqual([kind.fields(), kind.names(), kind.answers()], [[], [], ["a", "b"]])

    def test_four_fields_and_five_answers(self):
        kind = Kind(FOUR, FIVE)
        self.assertEqual([kind.fields(), kind.answers()], [FOUR, FIVE])
        self.assertEqual(kind.names(), ["a", "abcdef", "word", "number"])

    def test_tuples_for_lists(self):
        kind = Kind(tuple(MAIL), tuple(PLACES))
        self.assertEqual(kind, Kind(MAIL, PLACES))
        self.assertIs(type(kind.fields()), list)
        self.assertIs(type(kind.answers()), list)
        self.assertEqual([kind.fields(), kind.answers()], [MAIL, PLACES])

    def test_an_answer_may_be_the_name_of_a_field(self):
        self.assertEqual(Kind([("a", "word")], ["a", "word"]).answers(), ["a", "word"])

    def test_wrong_fields(self):
        for fields in [*NEVER_VALID, 0, 1, "a", *WRONG_FIELDS]:
            with self.subTest(fields=fields):
                self.assert_raises_holding(InvalidFields, fields, Kind, fields, PLACES)

    def test_wrong_answers(self):
        for answers in [*NEVER_VALID, 0, 1, "a", *WRONG_ANSWERS]:
            with self.subTest(answers=answers):
                self.assert_raises_holding(InvalidAnswers, answers, Kind, MAIL, answers)

    def test_wrong_widths(self):
        for width in [*NEVER_VALID, *WRONG_WIDTHS]:
            with self.subTest(width=width):
                self.assert_raises_holding(InvalidInteger, width, Kind, MAIL, PLACES, width=width)

    def test_order_of_the_checks(self):
        self.assert_raises_holding(InvalidFields, None, Kind, None, [], width=3)
        self.assert_raises_holding(InvalidFields, None, Kind, None, PLACES, width=3)
        answers = ["a", "a"]
        self.assert_raises_holding(InvalidAnswers, answers, Kind, MAIL, answers, width=3)

    def test_named_arguments(self):
        self.assertEqual(Kind(width=2, answers=PLACES, fields=MAIL), Kind(MAIL, PLACES, width=2))

    def test_width_only_by_name(self):
        self.assertRaises(TypeError, Kind, MAIL, PLACES, 1)

    def test_methods_stand_in_the_class_itself(self):
        own = vars(Kind)
        for name in ("fields", "names", "answers", "kind_of", "with_width", "projected", "is_case", "is_test"):
            self.assertTrue(callable(own[name]))
        self.assertIsInstance(own["width"], property)
        self.assertIsInstance(own["parse"], classmethod)
        self.assertIn("__eq__", own)
        self.assertIn("__str__", own)


class UnchangedTest(CheckedCase):
    def test_passed_lists_may_be_changed(self):
        fields, answers = list(MAIL), list(PLACES)
        kind = Kind(fields, answers)
        fields.append(("other", "word"))
        fields[0] = ("to", "number")
        answers.reverse()
        self.assertEqual(kind, Kind(MAIL, PLACES))
        self.assertEqual(str(kind), "1 | from:word size:number | inbox later")

    def test_passed_lists_are_not_changed(self):
        fields, answers, names = list(MAIL), list(PLACES), ["size", "from"]
        Kind(fields, answers).projected(names)
        self.assertEqual([fields, answers, names], [MAIL, PLACES, ["size", "from"]])

    def test_passed_names_may_be_changed(self):
        names = ["size"]
        kind = Kind(MAIL, PLACES).projected(names)
        names[0] = "from"
        names.append("size")
        self.assertEqual(kind.names(), ["size"])

    def test_returned_lists_may_be_changed(self):
        kind = Kind(MAIL, PLACES)
        for name in ("fields", "names", "answers"):
            with self.subTest(name):
                first, second = getattr(kind, name)(), getattr(kind, name)()
                self.assertIsNot(first, second)
                first.clear()
                self.assertEqual(getattr(kind, name)(), second)
        self.assertEqual(kind, Kind(MAIL, PLACES))

    def test_lists_of_derived_kinds_may_be_changed(self):
        kind = Kind(MAIL, PLACES)
        for other in (kind.with_width(1), kind.projected(["from", "size"])):
            other.fields().clear()
            other.answers().clear()
            self.assertEqual(other, kind)
            self.assertEqual(kind.answers(), PLACES)

    def test_width_cannot_be_assigned(self):
        kind = Kind(MAIL, PLACES)
        with self.assertRaises(AttributeError):
            kind.width = 2
        self.assertEqual(kind.width, 1)


class KindOfTest(CheckedCase):
    def test_fields(self):
        kind = Kind(FOUR, FIVE)
        found = [kind.kind_of(name) for name in kind.names()]
        self.assertEqual(found, ["word", "number", "word", "number"])
        self.assertEqual(kind.kind_of(name="abcdef"), "number")

    def test_other_values(self):
        kind = Kind(MAIL, PLACES)
        near = ["other", "fro", "froms", "From", "from ", "from\n", "inbox", "word", 0, 1, [], (), ["from"], ("from",)]
        for name in [*NEVER_VALID, *near, ("from", "word"), {"from": "word"}, kind]:
            with self.subTest(name=name):
                self.assert_raises_holding(NoField, name, kind.kind_of, name)

    def test_without_fields(self):
        self.assert_raises_holding(NoField, "from", Kind([], PLACES).kind_of, "from")


class WithWidthTest(CheckedCase):
    def test_widths(self):
        kind = Kind(MAIL, PLACES, width=1)
        for width in (0, 1, 2):
            other = kind.with_width(width)
            self.assertEqual(other, Kind(MAIL, PLACES, width=width))
            self.assertEqual(other.width, width)
        self.assertEqual(kind.width, 1)
        self.assertEqual(kind.with_width(width=2).width, 2)

    def test_wrong_widths(self):
        kind = Kind(MAIL, PLACES)
        for width in [*NEVER_VALID, *WRONG_WIDTHS]:
            with self.subTest(width=width):
                self.assert_raises_holding(InvalidInteger, width, kind.with_width, width)


class ProjectedTest(CheckedCase):
    def test_order_is_that_of_the_kind(self):
        kind = Kind(FOUR, FIVE, width=2)
        self.assertEqual(kind.projected(["number", "a", "abcdef"]), Kind([FOUR[0], FOUR[1], FOUR[3]], FIVE, width=2))
        self.assertEqual(kind.projected(("word", "abcdef")), Kind([FOUR[1], FOUR[2]], FIVE, width=2))
        self.assertEqual(kind.projected(names=["a"]).fields(), [("a", "word")])
        self.assertEqual(kind.fields(), FOUR)

    def test_all_and_none(self):
        for width in (0, 1, 2):
            kind = Kind(FOUR, FIVE, width=width)
            self.assertEqual(kind.projected(kind.names()[::-1]), kind)
            self.assertEqual(kind.projected([]), Kind([], FIVE, width=width))
            self.assertEqual(kind.projected(()), Kind([], FIVE, width=width))
        empty = Kind([], PLACES)
        self.assertEqual(empty.projected([]), empty)

    def test_wrong_names(self):
        kind = Kind(MAIL, PLACES)
        near = [["from", "from"], ("size", "from", "size"), ["other"], ["from", "other"], ["from\n"], ["from", 1]]
        near += [["from", None], [["from"]], [("from", "word")], "from", "", 0, 1, {"from": "word"}, {"from": 1, "size": 2}]
        for names in [*NEVER_VALID, *near, kind, [kind], ["from", kind], ["inbox"]]:
            with self.subTest(names=names):
                self.assert_raises_holding(InvalidNames, names, kind.projected, names)

    def test_wrong_names_without_fields(self):
        names = ["from"]
        self.assert_raises_holding(InvalidNames, names, Kind([], PLACES).projected, names)


class EqualTest(CheckedCase):
    def test_equal(self):
        self.assert_equality(Kind(MAIL, PLACES), Kind(MAIL, PLACES, width=1), True)
        self.assert_equality(Kind([], PLACES, width=0), Kind((), tuple(PLACES), width=0), True)

    def test_different(self):
        kind = Kind(MAIL, PLACES)
        self.assert_equality(kind, Kind(MAIL[::-1], PLACES), False)
        self.assert_equality(kind, Kind(MAIL[:1], PLACES), False)
        self.assert_equality(kind, Kind([("from", "word"), ("size", "word")], PLACES), False)
        self.assert_equality(kind, Kind([("from", "word"), ("sizes", "number")], PLACES), False)
        self.assert_equality(kind, Kind(MAIL, PLACES[::-1]), False)
        self.assert_equality(kind, Kind(MAIL, [*PLACES, "never"]), False)
        self.assert_equality(kind, Kind(MAIL, PLACES, width=0), False)
        self.assert_equality(kind, Kind(MAIL, PLACES, width=2), False)

    def test_other_values(self):
        kind = Kind(MAIL, PLACES)
        for value in [*NEVER_VALID, 0, 1, "a", [], (), str(kind), (MAIL, PLACES, 1), [kind]]:
            with self.subTest(value=value):
                self.assert_equality(kind, value, False)

    def test_repr(self):
        self.assertIsInstance(repr(Kind(MAIL, PLACES)), str)


WORD = "[a-z]{1,6}"
FIELD = f"{WORD}:(?:word|number)"
TEXT = re.compile(rf"[012] \| (-|{FIELD}(?: {FIELD}){{0,3}}) \| ({WORD}(?: {WORD}){{1,4}})")


def is_text(text):
    """Tell whether a string is the text of a kind, by another way than the package."""
    found = TEXT.fullmatch(text)
    if found is None:
        return False
    names = [field.split(":")[0] for field in found[1].split(" ")]
    answers = found[2].split(" ")
    return len(names) == len(set(names)) and len(answers) == len(set(answers))


class TextTest(CheckedCase):
    def test_example(self):
        kind = Kind([("from", "word"), ("size", "number")], ["inbox", "later"], width=1)
        self.assertEqual(str(kind), "1 | from:word size:number | inbox later")
        self.assertEqual(kind.projected(["size"]).names(), ["size"])
        self.assertEqual(kind, Kind.parse(str(kind)))
        self.assertEqual(str(Kind((), ("a", "b"), width=0)), "0 | - | a b")

    def test_texts(self):
        self.assertEqual(str(Kind([("a", "number")], FIVE, width=2)), "2 | a:number | v w x y zzzzzz")
        text = "1 | a:word abcdef:number word:word number:number | a b"
        self.assertEqual(str(Kind(FOUR, ["a", "b"])), text)

    def test_there_and_back(self):
        for fields in ([], MAIL, FOUR, FOUR[::-1], [("a", "number")]):
            for answers in (PLACES, FIVE, ["word", "a", "number"]):
                for width in (0, 1, 2):
                    kind = Kind(fields, answers, width=width)
                    parsed = Kind.parse(text=str(kind))
                    self.assertEqual(parsed, kind)
                    self.assertIs(type(parsed), Kind)
                    self.assertEqual([parsed.fields(), parsed.answers(), parsed.width], [fields, answers, width])

    def test_one_character_otherwise(self):
        texts = ["1 | from:word size:number | inbox later", "0 | - | a b", "2 | a:word b:word c:number d:word | v w x y z"]
        for text in texts:
            self.assert_near_texts(text, is_text, Kind.parse)

    def test_texts_of_no_kind(self):
        texts = [
            "1",
            "1 | -",
            "1 | - | a",
            "1 | - | a b | c",
            " | - | a b",
            "1 |  | a b",
            "1 | - | ",
            "1 | - |",
            "| - | a b",
            "1 | - a:word | a b",
            "1 | a:word - | a b",
            "1 | - - | a b",
            "1 | a:word a:number | a b",
            "1 | a:word b:word c:word d:word e:word | a b",
            "1 | a:word  b:word | a b",
            "1 | a:word:word | a b",
            "1 | a: | a b",
            "1 | :word | a b",
            "1 | a | a b",
            "1 | a:text | a b",
            "1 | abcdefg:word | a b",
            "1 | - | a a",
            "1 | - | a b c d e f",
            "1 | - | a abcdefg",
            "1 | - | a b\n",
            "1 | -\n | a b",
            "1\n | - | a b",
            "\n1 | - | a b",
            "1 | - | a b ",
            " 1 | - | a b",
            "1  | - | a b",
            "1|-|a b",
            "01 | - | a b",
            "-0 | - | a b",
            "-1 | - | a b",
            "+1 | - | a b",
            "3 | - | a b",
            "1 | - | A b",
            "1 | - | a,b",
            "one | - | a b",
            "x" * 4000,
            " | " * 1333,
            "1 | - | " + "a " * 1996,
        ]
        for text in texts:
            with self.subTest(text):
                self.assertFalse(is_text(text))
                self.assert_raises_holding(InvalidText, text, Kind.parse, text)

    def test_other_values(self):
        kind = Kind(MAIL, PLACES)
        for value in [*NEVER_VALID, 0, 1, [], (), kind, [str(kind)], (str(kind),), {"text": str(kind)}]:
            with self.subTest(value=value):
                self.assert_raises_holding(InvalidText, value, Kind.parse, value)


class IsCaseTest(CheckedCase):
    def test_cases(self):
        kind = Kind(MAIL, PLACES)
        cases = [("ann", 3), ("a", -9999), ("abcdef", 9999), ("from", 0), ("size", -1)]
        self.assert_all(True, kind.is_case, cases)
        self.assertIs(kind.is_case(value=("ann", 3)), True)

    def test_no_fields(self):
        kind = Kind([], PLACES)
        self.assertIs(kind.is_case(()), True)
        self.assert_all(False, kind.is_case, [*NEVER_VALID, 0, 1, "a", [], ("a",), (1,), ((),)])

    def test_four_fields(self):
        kind = Kind(FOUR, PLACES)
        self.assertIs(kind.is_case(("a", 1, "b", 2)), True)
        wrong = [("a", 1, "b", "c"), ("a", 1, 2, 2), ("a", "b", "b", 2), (1, 1, "b", 2), ("a", 1, "b"), ("a", 1, "b", 2, "c")]
        self.assert_all(False, kind.is_case, wrong)

    def test_other_values(self):
        kind = Kind(MAIL, PLACES)
        wrong = [["ann", 3], (3, "ann"), ("ann", 3, 3), ("ann",), (), [], ("ann", "3"), ("Ann", 3), ("", 3), ("abcdefg", 3)]
        wrong += [("ann", 10000), ("ann", -10000), ("ann", True), ("ann", None), ("ann\n", 3), (None, 3), (("ann",), 3)]
        wrong += [("ann", [3]), "ann 3", {"from": "ann", "size": 3}, kind, ("ann", kind), 0, 1, (("ann", 3),), [("ann", 3)]]
        self.assert_all(False, kind.is_case, [*NEVER_VALID, *wrong])


class IsTestTest(CheckedCase):
    def test_example(self):
        kind = Kind(MAIL, PLACES)
        self.assertEqual([kind.is_case(("ann", 3)), kind.is_test(("size", "is", 3))], [True, False])

    def test_tests(self):
        kind = Kind(MAIL, PLACES, width=0)
        tests = [("from", "is", "ann"), ("from", "not", "abcdef"), ("size", "most", 9999), ("size", "least", -9999)]
        self.assert_all(True, kind.is_test, tests)
        self.assertIs(kind.is_test(value=("from", "is", "from")), True)

    def test_operators_of_the_other_sort(self):
        kind = Kind(MAIL, PLACES)
        for name, value in (("from", "ann"), ("from", 3), ("size", "ann"), ("size", 3)):
            allowed = {("from", "ann"): ("is", "not"), ("size", 3): ("most", "least")}.get((name, value), ())
            for operator in ("is", "not", "most", "least"):
                with self.subTest(name=name, operator=operator, value=value):
                    self.assertIs(kind.is_test((name, operator, value)), operator in allowed)

    def test_no_fields(self):
        kind = Kind([], PLACES)
        self.assert_all(False, kind.is_test, [*NEVER_VALID, (), [], ("from", "is", "ann"), ("", "is", "ann")])

    def test_other_values(self):
        kind = Kind(MAIL, PLACES)
        wrong = [["from", "is", "ann"], ("from", "is"), ("from", "is", "ann", "ann"), ("other", "is", "ann"), (), [], 0, 1]
        wrong += [("from", "Is", "ann"), ("from", "is\n", "ann"), ("from", "isnot", "ann"), ("from", "", "ann"), "from is ann"]
        wrong += [("from", None, "ann"), ("from", ["is"], "ann"), ("from", kind, "ann"), (kind, "is", "ann"), (["from"], "is", "ann")]
        wrong += [("from", "is", "Ann"), ("from", "is", ""), ("from", "is", "abcdefg"), ("from", "is", None), ("from", "is", kind)]
        wrong += [("size", "most", 10000), ("size", "least", -10000), ("size", "most", True), ("size", "most", "3")]
        wrong += [("size", "most", None), ("size", "most", [3]), (None, "is", "ann"), (("from", "is", "ann"),), kind]
        wrong += [("from", ("is", "not"), "ann"), {"from": "is"}, [("from", "is", "ann")], ("fro", "is", "ann")]
        self.assert_all(False, kind.is_test, [*NEVER_VALID, *wrong])


if __name__ == "__main__":
    unittest.main()
