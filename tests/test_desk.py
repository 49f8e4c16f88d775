import itertools
import random
import unittest

from checks import CheckedCase
from reckoning import drawn_case, kinds
from reckoning_changes import are_windows_of, is_history_of
from samples_of_logs import BARE, CORNER, FIVE, NO_LOGS, PAIR, TWO
from samples_of_values import NEVER_VALID
from seenrules.changes import are_windows, fewest, is_history, ranges
from seenrules.desk import Desk
from seenrules.errors import (
    DoesNotFit,
    InvalidAnswer,
    InvalidCase,
    InvalidInteger,
    InvalidKind,
    NoEntry,
    NothingToRedo,
    NothingToUndo,
    TooMany,
)
from seenrules.kinds import Kind
from seenrules.logs import Log
from seenrules.moments import is_verdict_at, verdict_at

NEVER_KINDS = [value for value in NEVER_VALID if not isinstance(value, Kind)] + [value for value in NO_LOGS if value != PAIR]
NO_CASES = [*NEVER_VALID, ["a", "c"], ("a",), ("a", "c", "d"), ("a", 1), (), [], "a c", PAIR, 0, 1]
NO_ANSWERS = [*NEVER_VALID, "maybe", "No", ["no"], ("no",), 0, PAIR]
A, B, C = ("a", "c"), ("a", "d"), ("b", "c")


class Break(Exception):
    """An exception that no part of the package knows."""


def desk_of_corner():
    """Return a desk with three entries, two of them with an undone deed behind."""
    desk = Desk(PAIR)
    for case, answer in CORNER.entries():
        desk.add(case, answer)
    return desk


def undone_deeds(desk):
    """Return the deeds that can be done again, in order, by doing them on a copy."""
    other, found = desk.copied(), []
    while True:
        try:
            found.append(other.redo())
        except NothingToRedo:
            return found


def all_logs(desk):
    """Return the logs that undoing all deeds one by one gives, by undoing them on a copy."""
    other, found = desk.copied(), [desk.log()]
    while True:
        try:
            other.undo()
        except NothingToUndo:
            return found
        found.append(other.log())


def seen(desk):
    """Return all that can be seen of a desk."""
    return [desk.kind, desk.changes, desk.log(), len(desk), desk.deeds(), undone_deeds(desk), all_logs(desk)]


class DeskCase(CheckedCase):
    def check_entries(self, desk, entries):
        self.assertEqual(desk.log(), Log(desk.kind, entries))
        self.assertEqual([len(desk), desk.log().entries()], [len(entries), entries])
        self.assertIs(type(len(desk)), int)

    def check_refused(self, desk, error_class, value, call, *arguments):
        """Check that a call raises an exception with this value and leaves the desk as it was."""
        before = seen(desk)
        self.assert_raises_holding(error_class, value, call, *arguments)
        self.assertEqual(seen(desk), before)


class NewDeskTest(DeskCase):
    def test_new(self):
        for kind, changes in itertools.product(kinds(), (0, 1, 16)):
            desk = Desk(kind, changes=changes)
            self.assertEqual([desk.kind, desk.changes, len(desk), desk.deeds()], [kind, changes, 0, []])
            self.check_entries(desk, [])
        self.assertEqual(Desk(PAIR).changes, 0)
        self.assertEqual(Desk(changes=3, kind=PAIR).changes, 3)
        self.assertRaises(TypeError, Desk, PAIR, 3)

    def test_wrong_arguments(self):
        for value in NEVER_KINDS:
            self.assert_raises_holding(InvalidKind, value, Desk, value, changes=None)
        for value in [*NEVER_VALID, -1, 17, "0", [0], CORNER]:
            self.assert_raises_holding(InvalidInteger, value, Desk, PAIR, changes=value)

    def test_properties_stay(self):
        desk = Desk(PAIR)
        for name in ("kind", "changes"):
            self.assertRaises(AttributeError, setattr, desk, name, 1)
        self.assertIsInstance(repr(desk), str)

    def test_equality(self):
        one, other = desk_of_corner(), Desk(PAIR)
        self.assert_equality(one, other, False)
        for case, answer in ((B, "yes"), (A, "yes")):
            other.put(0, case, answer)
        other.change(1, "no")
        self.assert_equality(one, other, False)
        other.add(C, "no")
        # The deeds do not count, the entries do.
        self.assert_equality(one, other, True)
        other.change(2, "yes")
        self.assert_equality(one, other, False)
        self.assert_equality(Desk(PAIR), Desk(PAIR, changes=1), False)
        self.assert_equality(Desk(PAIR), Desk(PAIR.with_width(2)), False)
        self.assert_equality(Desk(PAIR), Desk(Kind(PAIR.fields(), TWO)), True)
        for value in [*NEVER_VALID, one.log(), PAIR, one.log().entries()]:
            self.assert_equality(one, value, False)


class DeedsTest(DeskCase):
    def test_example(self):
        desk = Desk(PAIR)
        found = [desk.add(A, "yes"), desk.add(B, "no"), desk.put(0, C, "no"), desk.verdict(("b", "d"))[0]]
        self.assertEqual(found, [0, 1, None, "sure"])
        found = [desk.remove(1), desk.verdict(("b", "d"))[0], desk.undo(), desk.change(0, "yes"), len(desk.deeds())]
        self.assertEqual(found, [(A, "yes"), "open", ("remove", 1), "no", 4])
        self.assert_raises_holding(NoEntry, seven := 7, desk.in_trial, lambda: [desk.add(("b", "b"), "no"), desk.remove(seven)])
        found = [len(desk), desk.undo(), desk.redo(), desk.log() == Log.parse(PAIR, "b c -> yes\na c -> yes\na d -> no")]
        self.assertEqual(found, [3, ("change", 0, "yes"), ("change", 0, "yes"), True])

    def test_each_deed(self):
        desk = Desk(PAIR)
        self.assertEqual([desk.add(A, "no"), desk.add(answer="yes", case=A)], [0, 1])
        self.check_entries(desk, [(A, "no"), (A, "yes")])
        self.assertEqual([desk.put(1, B, "no"), desk.put(answer="yes", at=3, case=C), desk.put(0, C, "no")], [None] * 3)
        self.check_entries(desk, [(C, "no"), (A, "no"), (B, "no"), (A, "yes"), (C, "yes")])
        self.assertEqual([desk.change(1, "yes"), desk.change(answer="yes", index=1), desk.change(4, "no")], ["no", "yes", "yes"])
        self.check_entries(desk, [(C, "no"), (A, "yes"), (B, "no"), (A, "yes"), (C, "no")])
        self.assertEqual([desk.remove(4), desk.remove(0), desk.remove(index=1)], [(C, "no"), (C, "no"), (B, "no")])
        self.check_entries(desk, [(A, "yes"), (A, "yes")])
        expected = [("add", A, "no"), ("add", A, "yes"), ("put", 1, B, "no"), ("put", 3, C, "yes"), ("put", 0, C, "no")]
        expected += [("change", 1, "yes"), ("change", 1, "yes"), ("change", 4, "no"), ("remove", 4), ("remove", 0), ("remove", 1)]
        self.assertEqual(desk.deeds(), expected)
        self.assertEqual({type(deed) for deed in desk.deeds()}, {tuple})

    def test_16_entries(self):
        desk = Desk(BARE)
        for at in range(16):
            self.assertEqual(desk.add((), "ab"[at % 2]), at)
        for call in (lambda: desk.add((), "a"), lambda: desk.put(0, (), "a"), lambda: desk.put(16, (), "b")):
            before = seen(desk)
            self.assert_too_many(17, call)
            self.assertEqual(seen(desk), before)
        self.assertEqual([desk.change(15, "a"), desk.remove(0), desk.add((), "a")], ["b", ((), "a"), 15])
        # Any entries may be on a desk, also if no list explains them.
        self.assertEqual(desk.fewest()[0], fewest(desk.log())[0])

    def test_refused(self):
        full = Desk(PAIR)
        for at in range(16):
            full.add(A, "no")
        for desk in (desk_of_corner(), Desk(PAIR, changes=2), full):
            count = len(desk)
            for value in NO_CASES:
                self.check_refused(desk, InvalidCase, value, desk.add, value, None)
                self.check_refused(desk, InvalidCase, value, desk.put, 0, value, None)
            for value in NO_ANSWERS:
                self.check_refused(desk, InvalidAnswer, value, desk.add, A, value)
                self.check_refused(desk, InvalidAnswer, value, desk.put, count, A, value)
                if count:
                    self.check_refused(desk, InvalidAnswer, value, desk.change, 0, value)
            for value in [*NEVER_VALID, -1, count + 1, "0", [0], 17]:
                self.check_refused(desk, InvalidInteger, value, desk.put, value, None, None)
            for value in [*NEVER_VALID, -1, count, "0", [0], 17]:
                self.check_refused(desk, NoEntry, value, desk.change, value, None)
                self.check_refused(desk, NoEntry, value, desk.remove, value)

    def test_results_are_new(self):
        desk = desk_of_corner()
        desk.deeds().clear()
        desk.log().entries().clear()
        self.assertEqual([len(desk.deeds()), len(desk)], [3, 3])


class UndoTest(DeskCase):
    def test_nothing(self):
        desk = Desk(PAIR)
        self.assertRaises(NothingToUndo, desk.undo)
        self.assertRaises(NothingToRedo, desk.redo)
        desk.add(A, "no")
        self.assertRaises(NothingToRedo, desk.redo)
        desk.undo()
        self.assertRaises(NothingToUndo, desk.undo)
        self.assertEqual([len(desk), desk.deeds(), desk.redo(), len(desk)], [0, [], ("add", A, "no"), 1])

    def test_a_new_deed_forgets(self):
        for work in (lambda desk: desk.add(A, "no"), lambda desk: desk.put(0, A, "no"), lambda desk: desk.change(0, "yes"), lambda desk: desk.remove(0)):
            desk = desk_of_corner()
            desk.undo(), desk.undo()
            self.assertEqual(len(undone_deeds(desk)), 2)
            work(desk)
            self.assertRaises(NothingToRedo, desk.redo)
            self.assertEqual(len(desk.deeds()), 2)

    def test_refused_deeds_forget_nothing(self):
        desk = desk_of_corner()
        desk.undo()
        for call, arguments in ((desk.add, (A, "never")), (desk.put, (9, A, "no")), (desk.change, (9, "no")), (desk.remove, (9,))):
            self.assertRaises((InvalidAnswer, InvalidInteger, NoEntry), call, *arguments)
        self.assertEqual(undone_deeds(desk), [("add", C, "no")])

    def test_all_the_way(self):
        desk = desk_of_corner()
        desk.put(1, A, "no"), desk.change(0, "no"), desk.change(0, "yes"), desk.remove(2)
        logs, deeds = all_logs(desk), desk.deeds()
        self.assertEqual([desk.undo() for deed in deeds], deeds[::-1])
        self.assertEqual([len(desk), desk.deeds()], [0, []])
        for at, deed in enumerate(deeds):
            self.assertEqual([desk.redo(), desk.deeds(), desk.log()], [deed, deeds[: at + 1], logs[-2 - at]])

    def test_300_deeds(self):
        desk = Desk(BARE)
        for at in range(100):
            desk.add((), "a"), desk.change(0, "b"), desk.remove(0)
        self.assertEqual([len(desk.deeds()), len(desk)], [300, 0])
        for at in range(300):
            desk.undo()
        self.assertEqual(len(undone_deeds(desk)), 300)


class TrialTest(DeskCase):
    def test_without_an_exception(self):
        desk = desk_of_corner()
        with desk.trial():
            desk.add(A, "no")
            desk.remove(0)
        self.assertEqual(desk.deeds()[3:], [("add", A, "no"), ("remove", 0)])
        self.assertEqual([desk.undo(), desk.undo(), desk.undo()], [("remove", 0), ("add", A, "no"), ("add", C, "no")])

    def test_with_an_exception(self):
        for error in (Break("x"), KeyError(1), NoEntry(3), KeyboardInterrupt()):
            desk = desk_of_corner()
            desk.undo()
            before = seen(desk)
            with self.assertRaises(type(error)) as caught:
                with desk.trial():
                    desk.add(A, "no"), desk.undo(), desk.undo(), desk.undo(), desk.put(0, B, "no"), desk.change(0, "yes")
                    raise error
            self.assertIs(caught.exception, error)
            self.assertEqual(seen(desk), before)
            self.assertEqual(desk.redo(), ("add", C, "no"))

    def test_undo_in_a_block(self):
        desk = desk_of_corner()
        with desk.trial():
            desk.undo()
        self.assertEqual([len(desk), undone_deeds(desk)], [2, [("add", C, "no")]])
        with self.assertRaises(Break):
            with desk.trial():
                desk.redo()
                raise Break
        self.assertEqual([len(desk), undone_deeds(desk)], [2, [("add", C, "no")]])

    def test_nested(self):
        desk = desk_of_corner()
        with desk.trial():
            desk.add(A, "no")
            middle = seen(desk)
            with self.assertRaises(Break):
                with desk.trial():
                    desk.remove(0)
                    with desk.trial():
                        desk.remove(0)
                    raise Break
            self.assertEqual(seen(desk), middle)
            with desk.trial():
                desk.change(0, "no")
        self.assertEqual(desk.deeds()[3:], [("add", A, "no"), ("change", 0, "no")])
        before = seen(desk)
        with self.assertRaises(Break):
            with desk.trial():
                desk.add(A, "no")
                with desk.trial():
                    desk.add(A, "yes")
                raise Break
        self.assertEqual(seen(desk), before)

    def test_the_block_begins_when_it_is_entered(self):
        desk = desk_of_corner()
        trial = desk.trial()
        desk.add(A, "no")
        with self.assertRaises(Break):
            with trial:
                desk.add(A, "yes")
                raise Break
        self.assertEqual(len(desk), 4)

    def test_two_desks(self):
        one, other = desk_of_corner(), desk_of_corner()
        with self.assertRaises(Break):
            with one.trial():
                one.remove(0), other.remove(0)
                raise Break
        self.assertEqual([len(one), len(other)], [3, 2])

    def test_in_trial(self):
        desk = desk_of_corner()
        for value in (None, [], False, 0, "a", desk, [1]):
            self.assertIs(desk.in_trial(lambda: value), value)
        self.assertEqual(desk.in_trial(work=lambda: [desk.add(A, "no"), desk.in_trial(lambda: desk.change(0, "no"))]), [3, "yes"])
        self.assertEqual(len(desk.deeds()), 5)

    def test_in_trial_with_an_exception(self):
        for error in (Break(), ZeroDivisionError(), NothingToRedo()):
            desk = desk_of_corner()
            desk.undo()
            before = seen(desk)

            def work():
                desk.add(A, "no")
                self.assertEqual(desk.in_trial(lambda: desk.remove(0)), (A, "yes"))
                raise error

            with self.assertRaises(type(error)) as caught:
                desk.in_trial(work)
            self.assertIs(caught.exception, error)
            self.assertEqual(seen(desk), before)

    def test_a_refused_deed(self):
        desk = desk_of_corner()
        before = seen(desk)
        case = ["a"]
        self.assert_raises_holding(InvalidCase, case, desk.in_trial, lambda: [desk.undo(), desk.remove(0), desk.add(case, "no")])
        self.assertEqual(seen(desk), before)


class AnswersTest(DeskCase):
    """A desk answers like a new log of the same entries."""

    def check(self, desk):
        log, changes = Log(desk.kind, desk.log().entries()), desk.changes
        self.assertEqual(desk.log(), log)
        least = fewest(log)[0]
        number, cuts, lists, windows = desk.fewest()
        self.assertEqual([number, len(cuts), len(windows)], [least] * 3)
        self.assertTrue(is_history_of(log, cuts, lists) and (not windows or are_windows_of(log, windows)))
        self.assertEqual(desk.ranges(), ranges(log))
        word, *found = desk.fits()
        self.assertEqual(word, "fits" if least <= changes else "stuck")
        self.assertTrue(is_history(log, *found) if least <= changes else are_windows(log, *found))
        self.assertEqual(len(found[0]) <= changes, least <= changes)
        self.check_verdicts(desk, log, least)

    def check_verdicts(self, desk, log, least):
        draw = random.Random(str(log))
        for at in {0, len(log), draw.randint(0, len(log)), None}:
            case, moment = drawn_case(draw, log.kind), len(log) if at is None else at
            if least <= desk.changes:
                found = desk.verdict(case, at=at)
                expected = verdict_at(log, moment, case, changes=desk.changes)
                self.assertEqual([found[0], *map(list, found[1:])], [expected[0], *map(list, expected[1:])])
                self.assertIs(is_verdict_at(log, moment, case, found, changes=desk.changes), True)
            else:
                with self.assertRaises(DoesNotFit) as caught:
                    desk.verdict(case, at=at)
                self.assertEqual(len(caught.exception.evidence), desk.changes + 1)
                self.assertTrue(are_windows_of(log, caught.exception.evidence))

    def work(self, draw, desk):
        """Do a drawn deed, or undo or redo one."""
        count, kind = len(desk), desk.kind
        case, answer = drawn_case(draw, kind), draw.choice(kind.answers())
        words = ["add", "add", "put", "undo", "redo", *(["change", "remove", "again", "break"] if count else [])]
        word = draw.choice(words)
        if word in ("add", "put", "again") and count < 9:
            return desk.put(draw.randint(0, count), case, answer) if word == "put" else desk.add(desk.log()[0][0] if word == "again" else case, answer)
        if word == "change":
            return desk.change(draw.randrange(count), answer)
        if word == "remove":
            return desk.remove(draw.randrange(count))
        if word == "undo" and desk.deeds():
            return desk.undo()
        if word == "redo" and undone_deeds(desk):
            return desk.redo()
        if word == "break":
            self.assertRaises(Break, desk.in_trial, lambda: self.break_off(desk))
        return None

    def break_off(self, desk):
        desk.remove(0), desk.undo()
        raise Break

    def test_rows_of_calls(self):
        draw = random.Random(121)
        for kind in [*kinds(TWO), *kinds(FIVE)]:
            desk = Desk(kind, changes=draw.choice((0, 0, 1, 2)))
            for step in range(20):
                self.work(draw, desk)
                self.check(desk)

    def test_moments(self):
        desk = desk_of_corner()
        for at in range(4):
            self.assertEqual(list(desk.verdict(at=at, case=("b", "d"))[1]), ["no"])
        self.assertEqual(desk.verdict(("z", "z"), at=None)[0], "open")
        self.assertRaises(TypeError, desk.verdict, ("b", "d"), 1)

    def test_16_entries(self):
        desk = Desk(BARE, changes=15)
        for at in range(16):
            desk.add((), "ab"[at % 2])
        self.check(desk)
        desk = Desk(PAIR)
        for at in range(16):
            desk.add(A, "no")
        self.assertEqual([desk.verdict(A)[0], desk.verdict(C)[0], desk.verdict(A, at=16)[0]], ["sure", "open", "sure"])

    def test_wrong_arguments(self):
        core = desk_of_corner()
        core.add(A, "no")
        for desk in (desk_of_corner(), Desk(PAIR, changes=3), core):
            for value in [value for value in [*NEVER_VALID, -1, len(desk) + 1, "0", [0]] if value is not None]:
                before = seen(desk)
                with self.assertRaises(InvalidInteger) as caught:
                    desk.verdict(None, at=value)
                self.assertIs(caught.exception.value, value)
                self.assertEqual(seen(desk), before)
            for value in NO_CASES:
                self.check_refused(desk, InvalidCase, value, desk.verdict, value)
        with self.assertRaises(DoesNotFit) as caught:
            core.verdict(A)
        self.assertTrue(are_windows_of(core.log(), caught.exception.evidence))

    def test_results_are_new(self):
        desk = desk_of_corner()
        word, histories, windows = desk.verdict(("b", "d"))
        histories.clear(), windows["yes"][0].clear(), windows.clear()
        desk.fits()[1].append(1), desk.fits()[2].clear(), desk.fewest()[2].clear(), desk.ranges().append(1)
        self.check(desk)


class CopiedTest(DeskCase):
    def test_copies_with_undone_deeds(self):
        desk = desk_of_corner()
        desk.change(0, "no"), desk.undo(), desk.undo()
        other = desk.copied()
        self.assertIs(type(other), Desk)
        self.assertIsNot(other, desk)
        self.assertEqual(seen(other), seen(desk))
        self.assertEqual([other.redo(), other.redo()], [("add", C, "no"), ("change", 0, "no")])
        self.assertEqual([len(desk), undone_deeds(desk)], [2, [("add", C, "no"), ("change", 0, "no")]])
        desk.add(A, "no")
        self.assertEqual([len(other.deeds()), other.undo()], [4, ("change", 0, "no")])

    def test_a_copy_in_a_block(self):
        desk = desk_of_corner()
        with self.assertRaises(Break):
            with desk.trial():
                desk.remove(0)
                other = desk.copied()
                raise Break
        self.assertEqual([len(desk), len(other), other.undo()], [3, 2, ("remove", 0)])

    def test_changes(self):
        self.assertEqual(Desk(PAIR, changes=5).copied().changes, 5)


if __name__ == "__main__":
    unittest.main()
