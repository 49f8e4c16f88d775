import unittest

from checks import CheckedCase
from reckoning import are_core, explains, greatest_core, met_sets
from samples_of_logs import BARE, CORNER, NO_LOGS, PAIR, SQUARE, drawn_logs, logs_of_lists, logs_with_contradictions
from samples_of_values import NEVER_VALID
from seenrules.errors import DoesNotFit, InvalidLog
from seenrules.kinds import Kind
from seenrules.logs import Log
from seenrules.widths import least_width, needed_fields

NEVER_LOGS = [value for value in NEVER_VALID if not isinstance(value, Log)] + NO_LOGS
NUMBERS = Kind([("x", "number"), ("y", "number")], ["no", "yes"], width=1)
CROSS = Log(NUMBERS, [((1, 1), "yes"), ((1, 2), "no"), ((2, 1), "no"), ((2, 2), "yes")])


class LeastWidthTest(CheckedCase):
    def check(self, log):
        fitting = [width for width in (0, 1, 2) if not greatest_core(log.kind.with_width(width), log.entries())]
        found = least_width(log)
        self.assertIs(type(found), tuple)
        if not fitting:
            word, core = found
            self.assertEqual(word, "none")
            self.check_core(log, 2, core)
        else:
            word, width, rules, core = found
            self.assertEqual([word, width], ["width", fitting[0]])
            self.assertIs(type(width), int)
            self.assertTrue(explains(rules, log.with_width(width)))
            if width == 0:
                self.assertIsNone(core)
            else:
                self.check_core(log, width - 1, core)
        return found

    def check_core(self, log, width, core):
        self.assertIs(type(core), list)
        self.assertEqual(core, sorted(set(core)))
        for smaller in range(width + 1):
            self.assertTrue(are_core(log.kind.with_width(smaller), log.entries(), frozenset(core)))

    def test_example(self):
        self.assertEqual(least_width(CROSS)[1], 2)
        self.assertEqual(least_width(CROSS)[3], [0, 1, 2, 3])
        self.assertEqual(least_width(CROSS.stretch(0, 3))[1], 1)

    def test_drawn_logs(self):
        logs = drawn_logs(61, (0, 1, 2, 4, 8, 17)) + logs_of_lists(61, (3, 17)) + logs_with_contradictions(61, (2, 17))
        found = [self.check(log)[:2] for log in logs]
        words = [item[1] if item[0] == "width" else "none" for item in found]
        self.assertEqual({0, 1, 2, "none"}, set(words))

    def test_the_width_of_the_log_does_not_matter(self):
        for log in (CROSS, CORNER, SQUARE, Log(PAIR), SQUARE + [(("e", "e"), "yes")]):
            found = [self.check(log.with_width(width)) for width in (0, 1, 2)]
            self.assertEqual([item[:2] for item in found[:2]], [item[:2] for item in found[1:]])

    def test_each_width(self):
        self.assertEqual(self.check(Log(PAIR))[:2], ("width", 0))
        self.assertEqual(self.check(CORNER.stretch(1, 3))[:2], ("width", 0))
        self.assertEqual(self.check(CORNER)[:2], ("width", 1))
        self.assertEqual(self.check(SQUARE)[:2], ("width", 2))
        self.assertEqual(self.check(SQUARE + [(("e", "e"), "yes")])[0], "none")

    def test_more_than_two_fields_may_need_more(self):
        kind = Kind([("x", "word"), ("y", "word"), ("z", "word")], ["no", "yes"], width=0)
        cases = [(x, y, z) for x in "ab" for y in "ab" for z in "ab"]
        log = Log(kind, [(case, ("no", "yes")[case.count("a") & 1]) for case in cases])
        self.assertEqual(self.check(log), ("none", list(range(8))))
        self.assertEqual(self.check(log.without(0))[:2], ("width", 2))

    def test_no_fields(self):
        self.assertEqual(self.check(Log(BARE, [((), "a")] * 17))[:2], ("width", 0))
        self.assertEqual(self.check(Log(BARE, [((), "a"), ((), "b")])), ("none", [0, 1]))

    def test_wrong_arguments(self):
        for value in NEVER_LOGS:
            self.assert_raises_holding(InvalidLog, value, least_width, value)
        self.assertEqual(least_width(log=CROSS)[:2], ("width", 2))


class NeededFieldsTest(CheckedCase):
    def can_do_without(self, log, name):
        """Tell whether some list without tests of the field explains the log, on the log's own cases."""
        kind, entries = log.kind, log.entries()
        others = [other for other in kind.names() if other != name]
        places = [kind.names().index(other) for other in others]
        small = [tuple(case[place] for place in places) for case, answer in entries]
        sets, left = met_sets(kind.projected(others), small), frozenset(range(len(entries)))
        while strikable := [met & left for met in sets if len({entries[at][1] for at in met & left}) == 1]:
            left -= strikable[0]
        return not left

    def check(self, log):
        if core := greatest_core(log.kind, log.entries()):
            with self.assertRaises(DoesNotFit) as caught:
                needed_fields(log)
            evidence = caught.exception.evidence
            self.assertEqual(evidence, sorted(set(evidence)))
            self.assertTrue(set(evidence) <= set(core))
            self.assertTrue(are_core(log.kind, log.entries(), frozenset(evidence)))
            return
        found = needed_fields(log)
        names = log.kind.names()
        self.assertEqual([name for name, core in found], [name for name in names if not self.can_do_without(log, name)])
        for item in found:
            self.assertIs(type(item), tuple)
            name, core = item
            other = log.projected([other for other in names if other != name])
            self.assertIs(type(core), list)
            self.assertEqual(core, sorted(set(core)))
            self.assertTrue(are_core(other.kind, other.entries(), frozenset(core)))

    def test_example(self):
        self.assertEqual(needed_fields(CROSS.stretch(0, 3)), [("x", [0, 2]), ("y", [0, 1])])

    def test_drawn_logs(self):
        for log in drawn_logs(62, (0, 1, 2, 4, 8, 17)) + logs_of_lists(62, (3, 17)):
            self.check(log)

    def test_order_and_single_fields(self):
        kind = Kind([("a", "number"), ("b", "word"), ("c", "word")], ["no", "yes"], width=2)
        log = Log(kind, [((1, "x", "p"), "no"), ((1, "y", "p"), "yes"), ((2, "x", "q"), "yes")])
        self.assertEqual([name for name, core in needed_fields(log)], ["b"])
        self.check(log)
        log = log + [((1, "x", "q"), "no"), ((1, "x", "p"), "no")]
        self.assertEqual([name for name, core in needed_fields(log)], ["a", "b"])
        self.check(log)

    def test_no_field_is_needed(self):
        for log in (Log(PAIR), Log(BARE, [((), "a")]), CORNER.stretch(0, 1), Log(NUMBERS, [((1, 1), "no"), ((2, 2), "yes")])):
            self.assertEqual(needed_fields(log), [])

    def test_does_not_fit(self):
        for log in [SQUARE, CROSS, *logs_with_contradictions(63, (2, 5, 17))]:
            self.check(log)

    def test_results_are_new(self):
        found = needed_fields(CROSS.stretch(0, 3))
        found[0][1].clear()
        found.clear()
        self.assertEqual(needed_fields(log=CROSS.stretch(0, 3)), [("x", [0, 2]), ("y", [0, 1])])

    def test_wrong_arguments(self):
        for value in NEVER_LOGS:
            self.assert_raises_holding(InvalidLog, value, needed_fields, value)


if __name__ == "__main__":
    unittest.main()
