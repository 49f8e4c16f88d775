import itertools
import random
import re
import unittest

from checks import CheckedCase
from reckoning import drawn_entries, kinds
from samples_of_values import NEVER_VALID
from seenrules.errors import (
    InvalidAnswer,
    InvalidCase,
    InvalidEntries,
    InvalidInteger,
    InvalidKind,
    InvalidNames,
    InvalidText,
    NoEntry,
)
from seenrules.kinds import Kind
from seenrules.logs import Log

MAIL = Kind([("from", "word"), ("size", "number")], ["inbox", "later"], width=1)
ENTRIES = [(("ann", 3), "inbox"), (("bob", 12), "later"), (("ann", 3), "later")]
TEXT = "ann 3 -> inbox\nbob 12 -> later\nann 3 -> later"
LOG = Log(MAIL, ENTRIES)
CY = (("cy", 1), "inbox")
BARE = Kind([], ["a", "b"], width=0)
FULL = Log(MAIL, [(("ann", number), "inbox") for number in range(17)])
NO_KINDS = [value for value in NEVER_VALID if not isinstance(value, Kind)] + [0, 1, "a", [], (), [MAIL], str(MAIL), LOG]
WRONG_CASES = [["ann", 3], ("ann",), ("ann", 3, 3), (3, "ann"), ("ann", True), ("ann", 10000), ("Ann", 3), (), [], MAIL]
WRONG_CASES += [("ann", "3"), "ann 3", ("ann", None), (("ann",), 3), {"from": "ann", "size": 3}, LOG, ENTRIES[0], 0, 1]
WRONG_ENTRIES = [
    [("ann", 3), "inbox"],
    (("ann", 3),),
    (("ann", 3), "inbox", 1),
    (["ann", 3], "inbox"),
    (("ann", 3), "never"),
    (("ann", 3), ["inbox"]),
    (("ann", 3), None),
    (("ann", 3), MAIL),
    (("ann", True), "inbox"),
    (("ann", 10000), "inbox"),
    (("ann",), "inbox"),
    ("inbox", ("ann", 3)),
    ("ann", 3, "inbox"),
    "ann 3 -> inbox",
    ("ann", 3),
    ((), "inbox"),
    (LOG, "inbox"),
    (),
    0,
    1,
]
WRONG_ANSWERS = [*NEVER_VALID, "never", "Inbox", "inbox ", "inbox\n", "from", ["inbox"], ("inbox",), [], (), 0, 1, MAIL, LOG]
WRONG_WIDTHS = [*NEVER_VALID, -1, 3, "1", [1], (1,), MAIL, LOG]


class CreateTest(CheckedCase):
    def test_ordinary(self):
        self.assertEqual([LOG.kind, LOG.entries(), len(LOG)], [MAIL, ENTRIES, 3])
        self.assertEqual(Log(entries=ENTRIES, kind=MAIL), LOG)

    def test_no_entries(self):
        for log in (Log(MAIL), Log(MAIL, []), Log(MAIL, ()), Log(kind=MAIL)):
            self.assertEqual([log.entries(), len(log), log.cases(), list(log.contradictions())], [[], 0, [], []])

    def test_tuples_for_lists(self):
        log = Log(MAIL, tuple(ENTRIES))
        self.assertEqual(log, LOG)
        self.assertIs(type(log.entries()), list)

    def test_no_fields(self):
        entries = [((), "a"), ((), "b"), ((), "a")]
        self.assertEqual(Log(BARE, entries).entries(), entries)

    def test_17_and_more_entries(self):
        for count in (16, 17):
            entries = [ENTRIES[0]] * count
            self.assertEqual(Log(MAIL, entries).entries(), entries)
        for count in (18, 19, 110):
            self.assert_too_many(count, Log, MAIL, [ENTRIES[0]] * count)
            self.assert_too_many(count, Log, MAIL, (ENTRIES[0],) * count)

    def test_wrong_arguments(self):
        for kind in NO_KINDS:
            self.assert_raises_holding(InvalidKind, kind, Log, kind)
            self.assert_raises_holding(InvalidKind, kind, Log, kind, None)
        for entries in [*NEVER_VALID, 0, 1, "a", ENTRIES[0], {"a": ENTRIES[0]}, MAIL, LOG, TEXT, [LOG]]:
            self.assert_raises_holding(InvalidEntries, entries, Log, MAIL, entries)
        for entry in [*NEVER_VALID, *WRONG_ENTRIES]:
            for entries in ([entry], (entry,), [*ENTRIES, entry], [entry, *ENTRIES], [CY] * 17 + [entry], [entry] + [CY] * 109):
                self.assert_raises_holding(InvalidEntries, entries, Log, MAIL, entries)

    def test_methods_stand_in_the_class_itself(self):
        own = vars(Log)
        names = "entries stretch inserted without replaced with_width projected cases answers_to contradictions".split()
        for name in [*names, "__len__", "__getitem__", "__contains__", "__eq__", "__add__", "__str__"]:
            self.assertTrue(callable(own[name]))
        self.assertIsInstance(own["kind"], property)
        self.assertIsInstance(own["parse"], classmethod)


class UnchangedTest(CheckedCase):
    def test_passed_lists_may_be_changed(self):
        entries = list(ENTRIES)
        log = Log(MAIL, entries)
        longer = log + entries
        entries.reverse()
        entries.pop()
        self.assertEqual(log, LOG)
        self.assertEqual(longer.entries(), ENTRIES + ENTRIES)

    def test_returned_lists_may_be_changed(self):
        for call in (LOG.entries, LOG.cases, lambda: LOG.answers_to(("ann", 3)), lambda: list(LOG.contradictions())):
            first, second = call(), call()
            self.assertIsNot(first, second)
            first.clear()
            self.assertEqual(call(), second)
        self.assertEqual(LOG, Log(MAIL, ENTRIES))

    def test_passed_lists_stay(self):
        entries, names = list(ENTRIES), ["size"]
        Log(MAIL, entries)
        LOG + entries
        LOG.projected(names)
        self.assertEqual([entries, names], [ENTRIES, ["size"]])

    def test_the_log_stays(self):
        log = Log(MAIL, ENTRIES)
        log + [CY]
        log.stretch(1, 2)
        log.inserted(1, *CY)
        log.without(0)
        log.replaced(0, "later")
        log.with_width(2)
        log.projected(["size"])
        log.entries().append(CY)
        self.assertEqual([log, log.kind, log.entries(), str(log)], [LOG, MAIL, ENTRIES, TEXT])

    def test_kind_cannot_be_assigned(self):
        with self.assertRaises(AttributeError):
            Log(MAIL).kind = BARE


class IndexTest(CheckedCase):
    def test_entries(self):
        self.assertEqual([LOG[0], LOG[1], LOG[2]], ENTRIES)
        self.assertIs(type(LOG[1]), tuple)

    def test_wrong_indexes(self):
        for index in [*NEVER_VALID, -1, -3, 3, 17, "0", "1", [0], (0,), [], (), {}, MAIL, LOG]:
            self.assert_raises_holding(NoEntry, index, lambda at: LOG[at], index)
        for index in (0, -1):
            self.assert_raises_holding(NoEntry, index, lambda at: Log(MAIL)[at], index)


class ContainsTest(CheckedCase):
    def test_cases(self):
        self.assertIs(("bob", 12) in LOG, True)
        self.assertIs(("ann", 3) in LOG, True)
        self.assertIs(("bob", 3) in LOG, False)
        self.assertIs(("bob", 12) not in LOG, False)
        self.assertIs(() in Log(BARE), False)
        self.assertIs(() in Log(BARE, [((), "a")]), True)

    def test_truth_values_are_no_numbers(self):
        log = Log(MAIL, [(("ann", 1), "inbox"), (("ann", 0), "inbox")])
        self.assert_all(False, lambda value: value in log, [("ann", True), ("ann", False), ["ann", 1]])
        numbers = Log(MAIL.projected(["size"]), [((1,), "inbox")])
        self.assert_all(False, lambda value: value in numbers, [(True,), [1], 1, True])

    def test_other_values(self):
        self.assert_all(False, lambda value: value in LOG, [*NEVER_VALID, *WRONG_CASES, *ENTRIES, "inbox", "ann"])
        self.assert_all(False, lambda value: value in Log(MAIL), [*NEVER_VALID, *WRONG_CASES, ("ann", 3)])


class EqualTest(CheckedCase):
    def test_equal(self):
        self.assert_equality(LOG, Log(Kind.parse(str(MAIL)), tuple(ENTRIES)), True)
        self.assert_equality(Log(MAIL), Log(MAIL, []), True)

    def test_different(self):
        self.assert_equality(LOG, Log(MAIL, ENTRIES[::-1]), False)
        self.assert_equality(LOG, Log(MAIL, ENTRIES[:2]), False)
        self.assert_equality(LOG, Log(MAIL, [*ENTRIES, ENTRIES[0]]), False)
        self.assert_equality(LOG, Log(MAIL.with_width(2), ENTRIES), False)
        self.assert_equality(LOG, LOG.replaced(0, "later"), False)
        self.assert_equality(Log(MAIL), Log(BARE), False)

    def test_other_values(self):
        for value in [*NEVER_VALID, 0, 1, [], (), ENTRIES, tuple(ENTRIES), TEXT, MAIL, [LOG]]:
            self.assert_equality(LOG, value, False)
            self.assert_equality(Log(MAIL), value, False)

    def test_repr(self):
        self.assertIsInstance(repr(LOG), str)


class AddTest(CheckedCase):
    def test_entries(self):
        self.assertEqual((LOG + [CY]).entries(), [*ENTRIES, CY])
        self.assertEqual((LOG + (CY, CY)).entries(), [*ENTRIES, CY, CY])
        self.assertEqual([LOG + [], LOG + (), Log(MAIL) + ENTRIES], [LOG, LOG, LOG])
        self.assertEqual((LOG + [CY]).kind, MAIL)

    def test_17_and_more_entries(self):
        sixteen = FULL.stretch(0, 16)
        self.assertEqual(len(sixteen + [CY]), 17)
        self.assertEqual(FULL + [], FULL)
        self.assert_too_many(18, lambda: sixteen + [CY, CY])
        self.assert_too_many(18, lambda: FULL + [CY])
        self.assert_too_many(127, lambda: FULL + [CY] * 110)
        self.assert_too_many(18, lambda: Log(MAIL) + (CY,) * 18)

    def test_wrong_entries(self):
        for log in (LOG, FULL, Log(MAIL)):
            for entries in [*NEVER_VALID, LOG, Log(MAIL), FULL, CY, TEXT, 0, 1, "a", MAIL, [LOG], {"a": CY}]:
                self.assert_raises_holding(InvalidEntries, entries, lambda value: log + value, entries)
            for entry in [*NEVER_VALID, *WRONG_ENTRIES]:
                for entries in ([entry], [CY, entry], (entry, CY), [CY] * 18 + [entry]):
                    self.assert_raises_holding(InvalidEntries, entries, lambda value: log + value, entries)


class StretchTest(CheckedCase):
    def test_all_stretches(self):
        for first, last in itertools.combinations_with_replacement(range(4), 2):
            found = LOG.stretch(first, last)
            self.assertEqual([found.entries(), found.kind], [ENTRIES[first:last], MAIL])
        self.assertEqual(LOG.stretch(last=2, first=1).entries(), ENTRIES[1:2])
        self.assertEqual(Log(MAIL).stretch(0, 0), Log(MAIL))
        self.assertEqual(FULL.stretch(0, 17), FULL)

    def test_wrong_integers(self):
        for value in [*NEVER_VALID, -1, 4, "1", [1], (1,), (), [], MAIL, LOG]:
            self.assert_raises_holding(InvalidInteger, value, LOG.stretch, value, None)
            self.assert_raises_holding(InvalidInteger, value, LOG.stretch, 0, value)
        for first, last in ((1, 0), (3, 2), (2, 1)):
            self.assert_raises_holding(InvalidInteger, last, LOG.stretch, first, last)
        self.assert_raises_holding(InvalidInteger, 1, Log(MAIL).stretch, 0, 1)


class InsertedTest(CheckedCase):
    def test_all_places(self):
        for at in range(4):
            found = LOG.inserted(at, *CY)
            self.assertEqual([found.entries(), found.kind], [[*ENTRIES[:at], CY, *ENTRIES[at:]], MAIL])
            self.assertEqual(found[at], CY)
        self.assertEqual(LOG.inserted(answer="inbox", case=("cy", 1), at=0)[0], CY)
        self.assertEqual(Log(BARE).inserted(0, (), "b").entries(), [((), "b")])

    def test_17_entries(self):
        self.assertEqual(len(FULL.stretch(0, 16).inserted(16, *CY)), 17)
        for at in (0, 17):
            self.assert_too_many(18, FULL.inserted, at, *CY)

    def test_wrong_arguments(self):
        for log in (LOG, FULL):
            for at in [*NEVER_VALID, -1, len(log) + 1, "1", [1], (1,), MAIL, LOG]:
                self.assert_raises_holding(InvalidInteger, at, log.inserted, at, None, None)
            for case in [*NEVER_VALID, *WRONG_CASES]:
                self.assert_raises_holding(InvalidCase, case, log.inserted, 0, case, None)
            for answer in WRONG_ANSWERS:
                self.assert_raises_holding(InvalidAnswer, answer, log.inserted, 0, ("cy", 1), answer)


class WithoutAndReplacedTest(CheckedCase):
    def test_without(self):
        for index in range(3):
            found = LOG.without(index)
            self.assertEqual([found.entries(), found.kind], [ENTRIES[:index] + ENTRIES[index + 1 :], MAIL])
        self.assertEqual(LOG.without(index=0).without(0).without(0), Log(MAIL))

    def test_replaced(self):
        for index, answer in itertools.product(range(3), ("inbox", "later")):
            expected = [*ENTRIES[:index], (ENTRIES[index][0], answer), *ENTRIES[index + 1 :]]
            found = LOG.replaced(index, answer)
            self.assertEqual([found.entries(), found.kind], [expected, MAIL])
        self.assertEqual(LOG.replaced(answer="inbox", index=0), LOG)
        self.assertEqual(FULL.replaced(16, "later")[16], (("ann", 16), "later"))

    def test_wrong_arguments(self):
        for index in [*NEVER_VALID, -1, 3, 17, "0", [0], (0,), MAIL, LOG]:
            self.assert_raises_holding(NoEntry, index, LOG.without, index)
            self.assert_raises_holding(NoEntry, index, LOG.replaced, index, None)
        self.assert_raises_holding(NoEntry, 0, Log(MAIL).without, 0)
        self.assert_raises_holding(NoEntry, 0, Log(MAIL).replaced, 0, "inbox")
        for answer in WRONG_ANSWERS:
            self.assert_raises_holding(InvalidAnswer, answer, LOG.replaced, 0, answer)


class WidthAndProjectedTest(CheckedCase):
    def test_with_width(self):
        for width in (0, 1, 2):
            self.assertEqual(LOG.with_width(width), Log(MAIL.with_width(width), ENTRIES))
        self.assertEqual(LOG.with_width(width=1), LOG)
        for width in WRONG_WIDTHS:
            self.assert_raises_holding(InvalidInteger, width, LOG.with_width, width)

    def test_projected(self):
        size = MAIL.projected(["size"])
        self.assertEqual(LOG.projected(["size"]), Log(size, [((3,), "inbox"), ((12,), "later"), ((3,), "later")]))
        self.assertEqual(LOG.projected(names=("size", "from")), LOG)
        bare = Log(MAIL.projected([]), [((), "inbox"), ((), "later"), ((), "later")])
        self.assertEqual([LOG.projected([]), LOG.projected(())], [bare, bare])

    def test_projected_in_the_order_of_the_kind(self):
        kind = Kind([("a", "word"), ("b", "number"), ("c", "word"), ("d", "number")], ["no", "yes"], width=2)
        log = Log(kind, [(("x", 1, "y", 2), "no"), (("z", 3, "z", 4), "yes")])
        for count in range(5):
            for names in itertools.permutations(kind.names(), count):
                places = [place for place, name in enumerate(kind.names()) if name in names]
                expected = [(tuple(case[place] for place in places), answer) for case, answer in log.entries()]
                self.assertEqual(log.projected(list(names)), Log(kind.projected(names), expected))

    def test_wrong_names(self):
        near = [["from", "from"], ["other"], ["from", "other"], ["from\n"], ["from", 1], "from", {"from": 1}, [MAIL], LOG, [LOG]]
        for names in [*NEVER_VALID, *near, 0, 1]:
            self.assert_raises_holding(InvalidNames, names, LOG.projected, names)


class CasesTest(CheckedCase):
    def test_cases(self):
        self.assertEqual(LOG.cases(), [("ann", 3), ("bob", 12)])
        self.assertEqual((LOG + [CY, ENTRIES[1]]).cases(), [("ann", 3), ("bob", 12), ("cy", 1)])
        self.assertEqual(Log(BARE, [((), "a"), ((), "b")]).cases(), [()])
        self.assertEqual(FULL.cases(), [("ann", number) for number in range(17)])

    def test_answers_to(self):
        self.assertEqual(LOG.answers_to(("ann", 3)), ["inbox", "later"])
        self.assertEqual([LOG.answers_to(("bob", 12)), LOG.answers_to(case=("bob", 3))], [["later"], []])
        self.assertEqual((LOG + ENTRIES).answers_to(("ann", 3)), ["inbox", "later"] * 2)
        for case in [*NEVER_VALID, *WRONG_CASES]:
            self.assert_raises_holding(InvalidCase, case, LOG.answers_to, case)
            self.assert_raises_holding(InvalidCase, case, Log(MAIL).answers_to, case)

    def test_contradictions(self):
        self.assertEqual(list(LOG.contradictions()), [(0, 2)])
        entries = [((), answer) for answer in "aabab"]
        expected = [(0, 2), (0, 4), (1, 2), (1, 4), (2, 3), (3, 4)]
        self.assertEqual(list(Log(BARE, entries).contradictions()), expected)
        self.assertEqual(list(FULL.contradictions()), [])

    def test_drawn_contradictions(self):
        draw = random.Random(43)
        for kind in kinds():
            log = Log(kind, drawn_entries(draw, kind, 17))
            pairs = itertools.combinations(range(17), 2)
            expected = [(a, b) for a, b in pairs if log[a][0] == log[b][0] and log[a][1] != log[b][1]]
            self.assertEqual(list(log.contradictions()), expected)
            for case in log.cases():
                self.assertEqual(log.answers_to(case), [answer for own_case, answer in log.entries() if own_case == case])
            self.assertEqual(len(log.cases()), len({case for case, answer in log.entries()}))

    def test_two_generators_at_once(self):
        log = Log(BARE, [((), answer) for answer in "aabab"])
        one, other = log.contradictions(), log.contradictions()
        self.assertEqual([next(one), next(one), next(other), next(one), next(other)], [(0, 2), (0, 4), (0, 2), (1, 2), (0, 4)])


LINE = "(?:[a-z]{1,6} (?:0|-?[1-9][0-9]{0,3}) -> (?:inbox|later))"
MAIL_TEXT = re.compile(rf"(?:{LINE}(?:\n{LINE}){{0,16}})?")


class TextTest(CheckedCase):
    def test_texts(self):
        self.assertEqual([str(LOG), str(Log(MAIL)), str(Log(BARE))], [TEXT, "", ""])
        self.assertEqual(str(Log(BARE, [((), "a"), ((), "b")])), "-> a\n-> b")
        self.assertEqual(Log.parse(BARE, "-> a\n-> b"), Log(BARE, [((), "a"), ((), "b")]))
        self.assertEqual([Log.parse(MAIL, TEXT), Log.parse(MAIL, ""), Log.parse(BARE, "")], [LOG, Log(MAIL), Log(BARE)])

    def test_example(self):
        log = Log.parse(MAIL, TEXT)
        self.assertEqual([len(log), log[1], ("bob", 12) in log], [3, (("bob", 12), "later"), True])
        self.assertEqual(str(log.stretch(1, 2) + [CY]), "bob 12 -> later\ncy 1 -> inbox")
        text = "cy 1 -> later\nbob 12 -> later\nann 3 -> later"
        self.assertEqual(str(log.inserted(0, ("cy", 1), "later").without(1)), text)
        self.assertEqual(str(log.projected(["size"]).stretch(0, 1)), "3 -> inbox")

    def test_there_and_back(self):
        draw = random.Random(44)
        for kind, count in itertools.product(kinds(), (0, 1, 2, 17)):
            entries = drawn_entries(draw, kind, count)
            text = str(Log(kind, entries))
            parsed = Log.parse(text=text, kind=kind)
            self.assertEqual([parsed.entries(), parsed.kind, str(parsed)], [entries, kind, text])
            self.assertIs(type(parsed), Log)

    def test_one_character_otherwise(self):
        for text in (TEXT, "ann -40 -> inbox", "ann 0 -> later\nbob 9999 -> inbox"):
            self.assert_near_texts(text, MAIL_TEXT.fullmatch, lambda other: Log.parse(MAIL, other))

    def test_17_and_18_lines(self):
        text = "\n".join(["ann 3 -> inbox"] * 17)
        self.assertEqual(len(Log.parse(MAIL, text)), 17)
        text = "\n".join(["ann 3 -> inbox"] * 18)
        self.assert_raises_holding(InvalidText, text, Log.parse, MAIL, text)

    def test_texts_of_no_log(self):
        texts = [
            "\n",
            " ",
            "->",
            "-> inbox",
            " -> inbox",
            "ann 3",
            "ann 3 ->",
            "ann 3 -> ",
            "ann 3 -> never",
            "ann 3 inbox",
            "ann 3 - > inbox",
            "ann 3 => inbox",
            "ann 3  -> inbox",
            "ann 3 ->  inbox",
            "ann  3 -> inbox",
            " ann 3 -> inbox",
            "ann 3 -> inbox ",
            "ann 3 -> inbox\n",
            "\nann 3 -> inbox",
            "ann 3 -> inbox\n\nann 3 -> inbox",
            "ann 03 -> inbox",
            "ann -0 -> inbox",
            "ann 10000 -> inbox",
            "ann three -> inbox",
            "3 ann -> inbox",
            "ann -> inbox",
            "ann 3 3 -> inbox",
            "ann 3 -> -> inbox",
            "ann 3 -> inbox -> inbox",
            "Ann 3 -> inbox",
            "abcdefg 3 -> inbox",
            "ann 3->inbox",
            "ann 3 -> inbox later",
            "x" * 4000,
            "ann 3 -> inbox\n" * 260,
            " -> " * 1000,
        ]
        for text in texts:
            self.assertIsNone(MAIL_TEXT.fullmatch(text))
            self.assert_raises_holding(InvalidText, text, Log.parse, MAIL, text)
        for text in ("-> a\n", " -> a", "->  a", "-> c", "a -> a", "->a", "a", "\n-> a"):
            self.assert_raises_holding(InvalidText, text, Log.parse, BARE, text)

    def test_other_values(self):
        for kind in NO_KINDS:
            self.assert_raises_holding(InvalidKind, kind, Log.parse, kind, TEXT)
        self.assert_raises_holding(InvalidKind, None, Log.parse, None, None)
        for text in [*NEVER_VALID, 0, 1, [], (), LOG, [TEXT], (TEXT,), ENTRIES, {"text": TEXT}]:
            if text != "":
                self.assert_raises_holding(InvalidText, text, Log.parse, MAIL, text)


if __name__ == "__main__":
    unittest.main()
