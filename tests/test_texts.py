import random
import re
import unittest

from checks import CheckedCase
from reckoning import drawn_rules, kinds
from samples_of_logs import BARE, CORNER, NO_LOGS, PAIR, drawn_logs, turns
from samples_of_texts import with_one_character_otherwise
from samples_of_values import NEVER_VALID
from seenrules.changes import fewest, fits
from seenrules.errors import InvalidHistory, InvalidKind, InvalidText, InvalidWindows
from seenrules.kinds import Kind
from seenrules.rulelists import RuleList
from seenrules.texts import history_text, read_history, read_windows, windows_text

NEVER_KINDS = [value for value in NEVER_VALID if not isinstance(value, Kind)] + [value for value in NO_LOGS if value != PAIR]
FROM = Kind([("from", "word"), ("if", "number")], ["from", "if", "no"], width=2)
FIRST = RuleList.parse(FROM, "no if from is if and if most 3\nfrom if if least 0\nif")
SECOND = RuleList.parse(FROM, "from")
TEXT = "from 0\nno if from is if and if most 3\nfrom if if least 0\nif\nfrom 2\nfrom\nfrom 16\nfrom"
HISTORY = ([2, 16], [FIRST, SECOND, SECOND])


def drawn_history(draw, kind, changes):
    """Return a history of drawn rule lists of a kind."""
    cuts = sorted(draw.sample(range(1, 17), changes))
    return (cuts, [RuleList(kind, drawn_rules(draw, kind, draw.choice((1, 2, 5)))) for at in range(changes + 1)])


class HistoryTest(CheckedCase):
    def check(self, kind, history):
        cuts, lists = history
        blocks = [f"from {start}\n{rules}" for start, rules in zip([0, *cuts], lists)]
        text = history_text(history)
        self.assertEqual(text, "\n".join(blocks))
        found = read_history(kind, text)
        self.assertEqual(found, (list(cuts), list(lists)))
        self.assertEqual([type(item) for item in (found, *found)], [tuple, list, list])
        self.assertEqual({rules.kind == kind for rules in found[1]}, {True})
        return text

    def test_words_that_look_like_others(self):
        self.assertEqual(self.check(FROM, HISTORY), TEXT)

    def test_drawn(self):
        draw = random.Random(131)
        for kind in kinds():
            for changes in (0, 1, 3, 16):
                self.check(kind, drawn_history(draw, kind, changes))

    def test_histories_of_logs(self):
        for log in [*drawn_logs(132, (0, 1, 5)), turns(BARE, (), ["a", "b"], 17)]:
            self.check(log.kind, fits(log, changes=16)[1:])
            self.check(log.kind, fewest(log)[1:3])

    def test_tuples(self):
        self.assertEqual(history_text((tuple(HISTORY[0]), tuple(HISTORY[1]))), TEXT)
        self.assertEqual(history_text(history=HISTORY), TEXT)

    def test_long_texts(self):
        kind = Kind([("abcdef", "number"), ("bcdefg", "number")], ["answer", "anothr"], width=2)
        rules = [([("abcdef", "least", -9999 + at), ("bcdefg", "most", -1000 - at)], "answer") for at in range(23)]
        history = (list(range(1, 17)), [RuleList(kind, [*rules, ([], "anothr")])] * 17)
        self.assertGreater(len(self.check(kind, history)), 4000)

    def test_no_histories(self):
        cuts, lists = HISTORY
        other = RuleList(FROM.with_width(1), SECOND.rules())
        wrong = [list(HISTORY), HISTORY[:1], (*HISTORY, 1), (lists, cuts), ([2], lists), ([2, 16, 17], [*lists, SECOND]), ([0, 16], lists)]
        wrong += [([16, 2], lists), ([2, 2], lists), ([2, True], lists), (["2", "16"], lists), ([2, None], lists), ([2, 17], lists), (2, lists)]
        wrong += [(cuts, lists[:2]), (cuts, [*lists, SECOND]), (cuts, [FIRST, SECOND, other]), (cuts, [FIRST, SECOND, None]), (cuts, FIRST)]
        wrong += [(cuts, [FIRST, SECOND, SECOND.rules()]), (cuts, [FIRST, SECOND, "from"]), ([], []), ([], [CORNER]), ([], [FROM]), ([], None)]
        wrong += [({2: 1, 16: 1}, lists), (cuts, {0: FIRST, 1: SECOND, 2: SECOND}), (None, None), ([-1], [FIRST, SECOND]), ([1], [other, SECOND])]
        for value in [*NEVER_VALID, *NO_LOGS, *wrong, TEXT, 0, FIRST, [FIRST]]:
            self.assert_raises_holding(InvalidHistory, value, history_text, value)

    def test_one_list(self):
        self.assertEqual(self.check(FROM, ([], [SECOND])), "from 0\nfrom")

    def test_near_texts(self):
        def is_rules(text):
            try:
                return str(RuleList.parse(FROM, text)) == text
            except InvalidText:
                return False

        def is_text(text):
            parts = re.split(r"^from (0|[1-9][0-9]*)$", text, flags=re.MULTILINE)
            starts = [int(part) for part in parts[1::2]]
            blocks = [part.removeprefix("\n") for part in parts[2::2]]
            # All blocks but the last one end with the line feed in front of the next line.
            if parts[0] or starts != sorted(set(starts)) or starts[:1] != [0] or starts[-1] > 16:
                return False
            if not all(part.startswith("\n") for part in parts[2::2]) or not all(block.endswith("\n") for block in blocks[:-1]):
                return False
            return all(is_rules(block) for block in [*[block[:-1] for block in blocks[:-1]], blocks[-1]])

        counts = {True: 0, False: 0}
        for text in [TEXT, *with_one_character_otherwise(TEXT)]:
            counts[is_text(text)] += 1
            if is_text(text):
                self.assertEqual(history_text(read_history(FROM, text)), text)
            else:
                self.assert_raises_holding(InvalidText, text, read_history, FROM, text)
        self.assertGreater(min(counts.values()), 50)

    def test_no_texts(self):
        lines = TEXT.split("\n")
        wrong = ["\n".join(lines[:at] + lines[at + 1 :]) for at in (0, 3, 5, 7)]
        wrong += [TEXT.replace(*pair) for pair in (("from 0", "from 1"), ("from 2", "from 0"), ("from 2", "from 16"), ("from 16", "from 17"))]
        wrong += [TEXT.replace("from 2", other) for other in ("from 02", "from -2", "from  2", "from 2 ", " from 2", "From 2", "from\n2", "from 2\n", "")]
        wrong += ["from 0", "from", "", "\n", TEXT + "\n", "\n" + TEXT, TEXT + "\nfrom 17\nfrom", TEXT + "\nfrom 16\nfrom", "from 00\nfrom", "from -0\nno"]
        wrong += ["from 0\nfrom 1", "from 0\nmaybe", "from 0\nno\nfrom 1\nno\n\nno", "from 0 \nno", "from 0\r\nno", "0\nno", "from 0\nno if", "from zero\nno"]
        wrong += ["from 0\n" + "\n".join(["no"] * 25), "from 0\nno if from is a and if most 1 and if least 0\nno", "from 10000\nno"]
        for value in [*NEVER_VALID, *wrong, 0, TEXT.split("\n"), HISTORY, FIRST]:
            self.assert_raises_holding(InvalidText, value, read_history, FROM, value)
        self.assertEqual(len(read_history(FROM, "from 0\n" + "\n".join(["no"] * 24))[1][0]), 24)

    def test_the_kind_counts(self):
        self.assertEqual(read_history(text="from 0\nyes", kind=PAIR), ([], [RuleList.parse(PAIR, "yes")]))
        for kind in (PAIR, FROM.with_width(1), FROM.projected(["from"]), Kind(FROM.fields(), ["from", "no"])):
            self.assert_raises_holding(InvalidText, TEXT, read_history, kind, TEXT)

    def test_wrong_kinds(self):
        for value in NEVER_KINDS:
            self.assert_raises_holding(InvalidKind, value, read_history, value, None)

    def test_results_are_new(self):
        found = read_history(FROM, TEXT)
        found[0].clear(), found[1].clear()
        self.assertEqual(read_history(FROM, TEXT), HISTORY)


class WindowsTest(CheckedCase):
    def check(self, windows, text):
        self.assertEqual(windows_text(windows), text)
        found = read_windows(text)
        self.assertEqual(found, [list(window) for window in windows])
        self.assertEqual({type(item) for item in (found, *found)}, {list})

    def test_example(self):
        self.check([[0, 1, 2], [2, 5]], "0 1 2\n2 5")

    def test_edges(self):
        self.check([[0]], "0")
        self.check(((16,), [0, 16], (3,)), "16\n0 16\n3")
        self.check([list(range(17))] * 110, "\n".join([" ".join(map(str, range(17)))] * 110))
        self.check([[5], [1, 2]], "5\n1 2")

    def test_windows_of_logs(self):
        for log in [*drawn_logs(133, (2, 5)), turns(BARE, (), ["a", "b"], 17)]:
            windows = fewest(log)[3]
            if windows:
                self.check(windows, "\n".join(" ".join(str(index) for index in window) for window in windows))

    def test_no_windows(self):
        wrong = [[], (), [[]], [[0], []], [[1, 0]], [[0, 0]], [[17]], [[-1]], [[True]], [[0, True]], [["0"]], [[None]], [0], 0, "0", "0 1", [[0], 1]]
        wrong += [{0: [0]}, [{0: 1}], [[[0]]], [[0], None], [CORNER], CORNER, [[0, 2, 1]], [[0, 1], [3, 2]], [[0.0]]]
        for value in [*NEVER_VALID, *NO_LOGS, *wrong]:
            if value != [[1, 2]]:
                self.assert_raises_holding(InvalidWindows, value, windows_text, value)
        self.assertEqual(windows_text(windows=[[1, 2]]), "1 2")

    def test_near_texts(self):
        text = "0 1 12\n2 5\n16"
        numbers = {str(index) for index in range(17)}

        def is_text(other):
            parts = [line.split(" ") for line in other.split("\n")]
            if not all(part in numbers for line in parts for part in line):
                return False
            return all(int(one) < int(two) for line in parts for one, two in zip(line, line[1:]))

        self.assertTrue(is_text(text))
        for other in with_one_character_otherwise(text):
            if is_text(other):
                self.assertEqual(windows_text(read_windows(other)), other)
            else:
                self.assert_raises_holding(InvalidText, other, read_windows, other)

    def test_no_texts(self):
        wrong = ["", " ", "\n", "0\n", "\n0", "0\n\n1", "0  1", " 0", "0 ", "01", "-0", "-1", "17", "1 0", "0 0", "0,1", "a", "0\t1", "0 1\n1 0", "+1"]
        for value in [*NEVER_VALID, *wrong, 0, [[0]], ["0"], CORNER]:
            self.assert_raises_holding(InvalidText, value, read_windows, value)
        self.assertEqual(read_windows(text="0 1"), [[0, 1]])

    def test_results_are_new(self):
        value = [[0, 1], (2, 3)]
        windows_text(value)
        self.assertEqual(value, [[0, 1], (2, 3)])
        found = read_windows("0 1\n0 1")
        found[0].clear()
        self.assertEqual([found, read_windows("0 1\n0 1")], [[[], [0, 1]], [[0, 1], [0, 1]]])


if __name__ == "__main__":
    unittest.main()
