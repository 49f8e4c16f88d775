import itertools
import random
import unittest

from checks import CheckedCase
from reckoning import all_cores, are_core, greatest_core
from samples_of_logs import BARE, CORNER, NO_LOGS, PAIR, SQUARE, drawn_logs, logs_of_lists, logs_with_contradictions
from samples_of_values import NEVER_VALID
from seenrules.cores import core_of, is_core, small_core
from seenrules.errors import InvalidLog
from seenrules.kinds import Kind
from seenrules.logs import Log

NEVER_LOGS = [value for value in NEVER_VALID if not isinstance(value, Log)] + NO_LOGS
# Two cores that share no entry, of two and of four entries.
TWO_CORES = SQUARE.stretch(0, 4) + [(("e", "e"), "no"), (("e", "e"), "yes"), (("f", "g"), "no")]


class CoreOfTest(CheckedCase):
    def test_example(self):
        self.assertEqual([core_of(CORNER), core_of(SQUARE), small_core(SQUARE)], [[], [0, 1, 2, 3], [0, 1, 2, 3]])

    def test_drawn_logs(self):
        for log in drawn_logs(52, (0, 1, 2, 4, 7, 12, 17)):
            expected = greatest_core(log.kind, log.entries())
            self.assertEqual(core_of(log), expected)
            self.assertEqual(are_core(log.kind, log.entries(), frozenset(expected)), expected != [])

    def test_it_contains_all_cores(self):
        for log in drawn_logs(53, (2, 5, 7)) + logs_with_contradictions(53, (2, 6)):
            cores = all_cores(log.kind, log.entries())
            self.assertEqual(core_of(log), sorted(frozenset().union(*cores)))

    def test_logs_of_a_list_have_none(self):
        for log in logs_of_lists(54, (0, 1, 6, 17)):
            self.assertEqual([core_of(log), small_core(log)], [[], []])

    def test_contradictions_are_cores(self):
        for log in logs_with_contradictions(55, (2, 5, 17)):
            for pair in log.contradictions():
                self.assertIs(is_core(log, pair), True)
                self.assertTrue(set(pair) <= set(core_of(log)))

    def test_no_fields(self):
        self.assertEqual([core_of(Log(BARE)), core_of(Log(BARE, [((), "a")] * 17))], [[], []])
        log = Log(BARE, [((), "a")] * 16 + [((), "b")])
        self.assertEqual([core_of(log), len(small_core(log)), small_core(log)[1]], [list(range(17)), 2, 16])

    def test_widths(self):
        self.assertEqual([core_of(SQUARE.with_width(width)) for width in (0, 1, 2)], [[0, 1, 2, 3, 4], [0, 1, 2, 3], []])

    def test_ends_of_the_numbers(self):
        kind = Kind([("n", "number")], ["no", "yes"], width=1)
        log = Log(kind, [((-9999,), "no"), ((0,), "yes"), ((9999,), "no"), ((0,), "yes")])
        self.assertEqual(core_of(log), [])
        self.assertEqual(core_of(log + [((0,), "no")]), [1, 3, 4])

    def test_results_are_new(self):
        core_of(SQUARE).clear()
        small_core(SQUARE).clear()
        self.assertEqual([core_of(log=SQUARE), small_core(log=SQUARE)], [[0, 1, 2, 3]] * 2)

    def test_wrong_arguments(self):
        for value in NEVER_LOGS:
            for call in (core_of, small_core):
                self.assert_raises_holding(InvalidLog, value, call, value)
            self.assert_raises_holding(InvalidLog, value, is_core, value, None)


class SmallCoreTest(CheckedCase):
    def check(self, log):
        core = small_core(log)
        if core:
            self.assertEqual(core, sorted(set(core)))
            self.assertTrue(are_core(log.kind, log.entries(), frozenset(core)))
            for index in core:
                rest = [log[other] for other in core if other != index]
                self.assertEqual(greatest_core(log.kind, rest), [])
        else:
            self.assertEqual(greatest_core(log.kind, log.entries()), [])

    def test_drawn_logs(self):
        for log in drawn_logs(56, (0, 2, 5, 9, 17)) + logs_with_contradictions(56, (2, 7, 17)):
            self.check(log)

    def test_among_all_cores(self):
        for log in drawn_logs(57, (4, 7)):
            cores = all_cores(log.kind, log.entries())
            least = [core for core in cores if not any(other < core for other in cores)]
            self.assertIn(frozenset(small_core(log)), least or [frozenset()])

    def test_two_cores(self):
        self.assertEqual(core_of(TWO_CORES), [0, 1, 2, 3, 4, 5])
        self.assertIn(small_core(TWO_CORES), [[0, 1, 2, 3], [4, 5]])

    def test_entries_that_stand_twice(self):
        log = SQUARE.stretch(0, 4) + SQUARE.entries()
        self.assertEqual(core_of(log), list(range(8)))
        self.assertEqual(len(small_core(log)), 4)
        self.check(log)


class IsCoreTest(CheckedCase):
    def test_example(self):
        self.assertEqual([is_core(SQUARE, (3, 2, 1, 0)), is_core(SQUARE, [0, 1, 2])], [True, False])

    def test_all_sets_of_indexes(self):
        for log in [log for log in drawn_logs(58, (1, 3, 6)) if len(log) <= 6]:
            cores = all_cores(log.kind, log.entries())
            for length in range(len(log) + 1):
                for chosen in itertools.combinations(range(len(log)), length):
                    self.assertIs(is_core(log, list(chosen)), frozenset(chosen) in cores)

    def test_any_order(self):
        for chosen in itertools.permutations(range(4)):
            self.assertIs(is_core(SQUARE, list(chosen)), True)
            self.assertIs(is_core(value=chosen, log=SQUARE), True)

    def test_long_logs(self):
        draw = random.Random(59)
        for log in drawn_logs(59, (17,)):
            core = core_of(log)
            draw.shuffle(core)
            self.assertIs(is_core(log, core), core != [])
            self.assertIs(is_core(log, tuple(small_core(log))), core != [])

    def test_other_values(self):
        wrong = [[], (), [0], [0, 1, 2, 3, 3], [0, 0, 1, 2, 3], [0, 1, 2, 3, 4], [0, 1, 2, 3, 5], [0, 1, 2, 3, -1], [1, 2, 3, -5]]
        wrong += [[False, True, 2, 3], [0, True, 2, 3], [0, 1, 2, "3"], [0, 1, 2, None], [[0, 1, 2, 3]], [0, 1, 2, [3]], "0123", 0]
        wrong += [{0: 0, 1: 1, 2: 2, 3: 3}, [0, 1, 2, SQUARE], SQUARE, PAIR, (0, 1, 2, 3.5), [4, 5, 6, 7]]
        self.assert_all(False, lambda value: is_core(SQUARE, value), [*NEVER_VALID, *wrong])
        self.assert_all(False, lambda value: is_core(Log(PAIR), value), [*NEVER_VALID, *wrong])
        contradiction = Log(BARE, [((), "a"), ((), "b")])
        self.assert_all(False, lambda value: is_core(contradiction, value), [[False, True], [0, True], [False, 1], (1, 1)])
        self.assertIs(is_core(contradiction, [1, 0]), True)


if __name__ == "__main__":
    unittest.main()
