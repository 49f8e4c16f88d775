import random
import unittest

from checks import CheckedCase, lines_run
from samples_of_values import NEVER_VALID
from seenrules.errors import InvalidWords, SeenError
from seenrules.kinds import Kind
from seenrules.values import first_other, is_integer, is_number, is_word, parse_number

LETTERS = "abcdefghijklmnopqrstuvwxyz"
# All words of one and of two letters, in their order.
SHORT_WORDS = [*LETTERS, *[first + last for first in LETTERS for last in LETTERS]]


class IsIntegerTest(CheckedCase):
    def test_limits(self):
        expected = {0: False, 1: True, 2: True, 3: True, 4: False}
        for value, result in expected.items():
            with self.subTest(value):
                self.assertIs(is_integer(value, 1, 3), result)

    def test_single_value_and_crossed_limits(self):
        self.assertIs(is_integer(2, 2, 2), True)
        self.assertIs(is_integer(2, 3, 1), False)
        self.assertIs(is_integer(3, 3, 1), False)
        self.assertIs(is_integer(1, 3, 1), False)

    def test_negative_and_long_limits(self):
        self.assertIs(is_integer(-3, -3, -1), True)
        self.assertIs(is_integer(-4, -3, -1), False)
        self.assertIs(is_integer(0, -3, -1), False)
        long = 10**30 - 1
        self.assertIs(is_integer(long, -long, long), True)
        self.assertIs(is_integer(long, -long, long - 1), False)
        self.assertIs(is_integer(-long, 1 - long, long), False)

    def test_truth_values_are_no_integers(self):
        self.assert_all(False, lambda value: is_integer(value, 0, 1), [True, False])

    def test_other_values(self):
        values = [value for value in NEVER_VALID if type(value) is not int]
        self.assert_all(False, lambda value: is_integer(value, -20000, 20000), [*values, [], (), "1", [1]])

    def test_named_arguments(self):
        self.assertIs(is_integer(high=3, low=1, value=3), True)


class IsWordTest(CheckedCase):
    def test_words(self):
        self.assert_all(True, is_word, [*LETTERS, "size", "abcdef", "zzzzzz", "is", "number"])

    def test_strings_that_are_no_words(self):
        values = ["", "abcdefg", "Size", "siZe", "a b", " a", "a ", "a\n", "\na", "a1", "1", "a-b", "a_b", "`", "{", "@"]
        self.assert_all(False, is_word, values)

    def test_other_values(self):
        self.assert_all(False, is_word, [*NEVER_VALID, 0, 1, [], (), ["a"], ("a",), {"a": "a"}])

    def test_named_argument(self):
        self.assertIs(is_word(value="size"), True)


class IsNumberTest(CheckedCase):
    def test_numbers(self):
        self.assert_all(True, is_number, [-9999, -9998, -1, 0, 1, 9998, 9999])

    def test_integers_that_are_no_numbers(self):
        self.assert_all(False, is_number, [-10000, 10000, 10**30 - 1, 1 - 10**30])

    def test_other_values(self):
        self.assert_all(False, is_number, [*NEVER_VALID, "3", "0", [], (), [3], (3,), {3: 3}])

    def test_named_argument(self):
        self.assertIs(is_number(value=-9999), True)

    def test_example(self):
        found = [is_integer(3, 1, 3), is_integer(True, 0, 1), is_word("size"), is_word("Size")]
        self.assertEqual([*found, is_number(-9999), is_number("3")], [True, False, True, False, True, False])


class ParseNumberTest(CheckedCase):
    def test_example(self):
        texts = ["-40", "040", "-0", "10000", 40]
        self.assertEqual([parse_number(text) for text in texts], [-40, None, None, None, None])

    def test_all_numbers(self):
        for number in range(-9999, 10000):
            self.assertEqual(parse_number(str(number)), number)
        self.assertIs(type(parse_number("0")), int)
        self.assertEqual(parse_number("0"), 0)

    def test_strings_that_represent_none(self):
        texts = ["", "-", "--1", "+1", " 1", "1 ", "1\n", "\n1", "1 2", "1_0", "00", "-00", "01", "-01", "-10000", "99990"]
        texts += ["1.0", "1e3", "0x1", "a", "1a", "a1", "1-", "1-2", "- 1", "-+1", "/", ":", "1" * 200, "-" * 200]
        self.assert_all(None, parse_number, texts)

    def test_other_values(self):
        self.assert_all(None, parse_number, [*NEVER_VALID, 0, 7, [], (), ["7"], ("7",), {"7": 7}])

    def test_named_argument(self):
        self.assertEqual(parse_number(text="9999"), 9999)


class FirstOtherTest(CheckedCase):
    def test_example(self):
        found = [first_other([]), first_other(["a", "c", "b"]), first_other(("b", "aa"))]
        self.assertEqual(found, ["a", "d", "a"])

    def test_shorter_words_come_first(self):
        letters = list(LETTERS)
        self.assertEqual(first_other(letters[:25]), "z")
        self.assertEqual(first_other(letters[1:]), "a")
        self.assertEqual(first_other(letters), "aa")
        self.assertEqual(first_other(letters[::-1]), "aa")
        self.assertEqual(first_other([*letters, "ab", "zzzzzz"]), "aa")
        self.assertEqual(first_other([*letters, "ac", "aa"]), "ab")
        pairs = ["a" + letter for letter in letters]
        self.assertEqual(first_other([*pairs, *letters]), "ba")
        self.assertEqual(first_other(pairs), "a")

    def check(self, words, expected):
        self.assertEqual(first_other(list(words)), expected)
        self.assertEqual(first_other(tuple(words)), expected)

    def test_no_word(self):
        self.check([], "a")

    def test_all_words_of_one_letter_in_drawn_orders(self):
        draw = random.Random(12)
        for turn in range(200):
            letters = draw.sample(LETTERS, 26)
            self.check(letters, "aa")
            for count in range(26):
                self.check(letters[:count], min(letters[count:]))

    def test_short_words_with_one_left_out_at_each_place(self):
        for count in range(26, 101):
            words = SHORT_WORDS[:count]
            self.check(words, SHORT_WORDS[count])
            for place in range(count):
                self.check(words[:place] + words[place + 1 :], words[place])

    def test_drawn_words(self):
        draw = random.Random(13)
        for turn in range(300):
            words = draw.sample(SHORT_WORDS[: draw.choice((30, 60, 110, 702))], draw.randint(0, 30))
            words += draw.choices(["abc", "zzzzzz", *SHORT_WORDS[: draw.randint(1, 60)]], k=draw.randint(0, 70))
            self.check(words, next(word for word in SHORT_WORDS if word not in words))

    def test_no_more_work_than_is_needed(self):
        words = SHORT_WORDS[:98]
        self.assertEqual(first_other(words), "cu")
        known = lines_run(first_other, ["b"] * 97)
        self.assertLess(lines_run(first_other, words[1:]), known + 10)
        self.assertLess(lines_run(first_other, words[:10] + words[11:]), known + 60)
        self.assertLess(lines_run(first_other, []), 30)

    def test_duplicates_are_words_too(self):
        self.assertEqual(first_other(["a", "a", "b"]), "c")
        self.check(["b"] * 50 + ["a"] * 50, "c")

    def test_a_hundred_words(self):
        pairs = [first + last for first in "abc" for last in LETTERS]
        words = [*LETTERS, *pairs][:100]
        self.assertEqual(len(words), 100)
        self.assertEqual(first_other(words), "cw")
        self.assertEqual(first_other(tuple(words)), "cw")
        self.assertEqual(first_other(["b"] * 100), "a")

    def test_more_words_are_refused(self):
        for words in (["b"] * 101, ("b",) * 101, ["b"] * 110):
            self.assert_raises_holding(InvalidWords, words, first_other, words)

    def test_other_values(self):
        bad = ["a", "b", "c", 0, 1, ["a", ""], ["a", "abcdefg"], ["a", "B"], ["a", "b\n"], ["a", None], ["a", ["b"]]]
        bad += [("a", ("b",)), {"a": 1}, [True], [3], [{}], [Kind([], ["a", "b"])], [SeenError("a")]]
        for value in [*NEVER_VALID, *bad]:
            with self.subTest(value=value):
                self.assert_raises_holding(InvalidWords, value, first_other, value)

    def test_argument_stays_and_may_be_named(self):
        words = ["b", "a"]
        self.assertEqual(first_other(words=words), "c")
        self.assertEqual(words, ["b", "a"])


if __name__ == "__main__":
    unittest.main()
