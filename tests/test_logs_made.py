"""Tests of logs that come of other logs, and of the contradictions in them."""

import itertools
import random
import unittest

from checks import CheckedCase, lines_run
from reckoning import drawn_case, drawn_entries, kinds
from samples_of_values import NEVER_VALID
from seenrules.errors import InvalidAnswer, InvalidCase, InvalidEntries, InvalidInteger, InvalidNames, NoEntry, TooMany
from seenrules.kinds import Kind
from seenrules.logs import Log

TWO = ["no", "yes"]
FIVE = ["no", "yes", "maybe", "never", "other"]
FOUR_FIELDS = [("a", "word"), ("b", "number"), ("c", "word"), ("d", "number")]


def all_pairs(entries):
    """Return the contradictions by looking at all pairs of entries."""
    pairs = itertools.combinations(range(len(entries)), 2)
    return [(one, two) for one, two in pairs if entries[one][0] == entries[two][0] and entries[one][1] != entries[two][1]]


def logs_with_repeated_cases():
    """Return logs of 17 entries: of one case, of two cases by turns, of 17 cases, with two and five answers in turn."""
    logs = []
    for fields, answers in itertools.product(([], [("x", "word")], FOUR_FIELDS), (TWO, FIVE)):
        kind = Kind(fields, answers)
        for count in (1, 2, 17) if fields else (1,):
            cases = [tuple("abcdefghijklmnopq"[at] if sort == "word" else at for name, sort in fields) for at in range(count)]
            turns = [answers, [answer for answer in answers for case in cases], answers[:1]]
            for turn in turns:
                logs.append(Log(kind, [(cases[at % count], turn[at % len(turn)]) for at in range(17)]))
    return logs


class ContradictionsTest(CheckedCase):
    def test_repeated_cases(self):
        logs = logs_with_repeated_cases()
        self.assertEqual({len(log.cases()) for log in logs}, {1, 2, 17})
        for log in logs:
            found = list(log.contradictions())
            self.assertEqual(found, all_pairs(log.entries()))
            self.assertTrue(all(type(pair) is tuple for pair in found))

    def test_of_the_issue(self):
        log = Log(Kind([], FIVE), [((), FIVE[at % 5]) for at in range(17)])
        found = list(log.contradictions())
        self.assertEqual([len(found), found[:5], found[-1]], [115, [(0, 1), (0, 2), (0, 3), (0, 4), (0, 6)], (15, 16)])

    def test_two_at_once(self):
        for log in logs_with_repeated_cases():
            expected = all_pairs(log.entries())
            one, other = log.contradictions(), log.contradictions()
            found = [next(one, None) for step in range(3)]
            self.assertEqual(list(other), expected)
            self.assertEqual([pair for pair in found if pair] + list(one), expected)
            one, other = log.contradictions(), log.contradictions()
            self.assertEqual(list(zip(one, other)), list(zip(expected, expected)))

    def test_a_generator_that_is_left(self):
        for log in logs_with_repeated_cases():
            for pair in log.contradictions():
                break
            self.assertEqual(list(log.contradictions()), all_pairs(log.entries()))

    def test_different_cases_take_little_work(self):
        kind = Kind([("n", "number")], FIVE)
        logs = [Log(kind, [((number,), FIVE[number % 5]) for number in range(count)]) for count in (4, 16)]
        few, many = [lines_run(lambda: list(log.contradictions())) for log in logs]
        self.assertLess(many, 4 * few)


class MadeLog:
    """A log and the same entries as a plain list, changed side by side."""

    def __init__(self, draw, kind):
        self.draw = draw
        self.kind = kind
        self.entries = drawn_entries(draw, kind, draw.randint(0, 17))
        self.log = Log(kind, self.entries)

    def add(self):
        more = drawn_entries(self.draw, self.kind, self.draw.randint(0, 17 - len(self.entries)))
        self.log = self.log + self.draw.choice([list, tuple])(more)
        self.entries = self.entries + more

    def stretch(self):
        first = self.draw.randint(0, min(2, len(self.entries)))
        last = self.draw.randint(max(first, len(self.entries) - 2), len(self.entries))
        self.log, self.entries = self.log.stretch(first, last), self.entries[first:last]

    def insert(self):
        if len(self.entries) < 17:
            at, case = self.draw.randint(0, len(self.entries)), drawn_case(self.draw, self.kind)
            answer = self.draw.choice(self.kind.answers())
            self.log = self.log.inserted(at, case, answer)
            self.entries = [*self.entries[:at], (case, answer), *self.entries[at:]]

    def take_out(self):
        if self.entries:
            index = self.draw.randrange(len(self.entries))
            self.log = self.log.without(index)
            self.entries = self.entries[:index] + self.entries[index + 1 :]

    def answer_otherwise(self):
        if self.entries:
            index, answer = self.draw.randrange(len(self.entries)), self.draw.choice(self.kind.answers())
            self.log = self.log.replaced(index, answer)
            self.entries = [*self.entries[:index], (self.entries[index][0], answer), *self.entries[index + 1 :]]

    def widen(self):
        width = self.draw.randint(0, 2)
        self.kind = Kind(self.kind.fields(), self.kind.answers(), width=width)
        self.log = self.log.with_width(width)

    def project(self):
        if self.draw.random() < 0.2:
            names = self.draw.sample(self.kind.names(), self.draw.randint(0, len(self.kind.names())))
            places = [place for place, name in enumerate(self.kind.names()) if name in names]
            fields = [self.kind.fields()[place] for place in places]
            self.kind = Kind(fields, self.kind.answers(), width=self.kind.width)
            self.entries = [(tuple(case[place] for place in places), answer) for case, answer in self.entries]
            self.log = self.log.projected(names)


class ChainsTest(CheckedCase):
    def check(self, made):
        log, entries = made.log, made.entries
        self.assertEqual([log.kind, log.entries(), len(log)], [made.kind, entries, len(entries)])
        # Made by itself, the log is the same.
        self.assert_equality(log, Log(made.kind, entries), True)
        self.assertEqual(str(log), str(Log(made.kind, entries)))
        self.assertEqual(list(log.contradictions()), all_pairs(entries))
        cases = [case for at, (case, answer) in enumerate(entries) if case not in [other for other, word in entries[:at]]]
        self.assertEqual(log.cases(), cases)
        for case in cases:
            self.assertEqual(log.answers_to(case), [answer for other, answer in entries if other == case])

    def test_chains(self):
        draw = random.Random(42)
        for kind in kinds() * 3:
            made = MadeLog(draw, kind)
            works = [made.add, made.stretch, made.insert, made.take_out, made.answer_otherwise, made.widen, made.project]
            for work in draw.choices(works, k=24):
                before = made.log
                shown, entries = str(before), before.entries()
                work()
                self.check(made)
                self.assertEqual([str(before), before.entries()], [shown, entries])

    def test_a_projected_log_has_other_contradictions(self):
        kind = Kind(FOUR_FIELDS, FIVE)
        log = Log(kind, [(("a", number, "b", -number), FIVE[number % 5]) for number in range(17)])
        self.assertEqual(list(log.contradictions()), [])
        for names in ([], ["a"], ["c", "a"]):
            self.assertEqual(list(log.projected(names).contradictions()), all_pairs([((), answer) for case, answer in log.entries()]))


class RefusalsTest(CheckedCase):
    """Operations on logs that come of other logs refuse what they refuse on other logs."""

    def made_logs(self):
        kind = Kind([("x", "word"), ("n", "number")], TWO)
        log = Log(kind, [(("a", number), "no") for number in range(9)])
        logs = [log + log.entries()[:2], log.stretch(1, 9), log.inserted(3, ("b", 1), "yes"), log.without(2), log.replaced(0, "yes")]
        return [log, *logs, log.with_width(2), log.projected(["n", "x"]), log.stretch(0, 0), log + log.entries()[:8]]

    def test_entries(self):
        wrong = [["a"], [(("a", 1), "never")], [(("a", True), "no")], [(("a",), "no")], [[("a", 1), "no"]], (("a", 1), "no"), "no"]
        for log in self.made_logs():
            for entries in [*NEVER_VALID, *wrong, log, 0, {"a": 1}]:
                self.assert_raises_holding(InvalidEntries, entries, lambda value: log + value, entries)

    def test_integers_and_indexes(self):
        for log in self.made_logs():
            count = len(log)
            for value in [*NEVER_VALID, -1, count + 1, "0", [0], (0,), log]:
                self.assert_raises_holding(InvalidInteger, value, log.stretch, value, 0)
                self.assert_raises_holding(InvalidInteger, value, log.stretch, 0, value)
                self.assert_raises_holding(InvalidInteger, value, log.inserted, value, None, None)
            for value in [*NEVER_VALID, -1, count, "0", [0], (0,), log]:
                self.assert_raises_holding(NoEntry, value, log.without, value)
                self.assert_raises_holding(NoEntry, value, log.replaced, value, None)
            for value in [*NEVER_VALID, -1, 3, "0", [0], (0,), log]:
                self.assert_raises_holding(InvalidInteger, value, log.with_width, value)

    def test_cases_answers_and_names(self):
        for log in self.made_logs():
            for value in [*NEVER_VALID, ["a", 1], ("a",), ("a", True), (1, "a"), ("a", 1, 1), (), log]:
                self.assert_raises_holding(InvalidCase, value, log.inserted, 0, value, None)
                self.assert_raises_holding(InvalidCase, value, log.answers_to, value)
            for value in [*NEVER_VALID, "never", "No", "x", ["no"], ("no",), 0, log]:
                self.assert_raises_holding(InvalidAnswer, value, log.inserted, 0, ("a", 1), value)
                if len(log):
                    self.assert_raises_holding(InvalidAnswer, value, log.replaced, 0, value)
            for value in [*NEVER_VALID, ["x", "x"], ["y"], ["x", "y"], ["x", 1], "x", {"x": 1}, [log], log]:
                self.assert_raises_holding(InvalidNames, value, log.projected, value)

    def test_too_many(self):
        full = self.made_logs()[-1]
        self.assertEqual(len(full), 17)
        for log in (full, full.with_width(0), full.replaced(3, "yes"), full.projected(["x", "n"]), full.without(0) + [full[0]]):
            self.assert_too_many(18, log.inserted, 0, ("a", 1), "no")
            self.assert_too_many(20, lambda: log + log.entries()[:3])
            self.assertEqual(log + [], log)

    def test_refused_before_too_many(self):
        full = self.made_logs()[-1]
        entries = [(("a", 1), "no"), (("a", 1), "never")]
        self.assert_raises_holding(InvalidEntries, entries, lambda value: full + value, entries)
        self.assert_raises_holding(InvalidAnswer, "never", full.inserted, 17, ("a", 1), "never")
        with self.assertRaises(TooMany):
            Log(full.kind, full.entries() + [(("a", 1), "no")])


class WorkTest(CheckedCase):
    def test_old_entries_are_not_looked_at_again(self):
        kind = Kind(FOUR_FIELDS, FIVE, width=2)
        entries = [(("abc", number, "abcdef", -number), FIVE[number % 5]) for number in range(16)]
        short, long = Log(kind, entries[:4]), Log(kind, entries)
        works = [
            lambda log: log + entries[:1],
            lambda log: log.stretch(0, 4),
            lambda log: log.inserted(2, *entries[0]),
            lambda log: log.without(2),
            lambda log: log.replaced(2, "never"),
            lambda log: log.with_width(1),
        ]
        for work in works:
            self.assertEqual(lines_run(work, short), lines_run(work, long))


if __name__ == "__main__":
    unittest.main()
