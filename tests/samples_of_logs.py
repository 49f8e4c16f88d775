"""Logs for the tests of what is found about logs."""

import random

from reckoning import drawn_entries, entries_of_list, kinds
from seenrules.kinds import Kind
from seenrules.logs import Log

PAIR = Kind([("x", "word"), ("y", "word")], ["no", "yes"], width=1)
CORNER = Log(PAIR, [(("a", "c"), "yes"), (("a", "d"), "no"), (("b", "c"), "no")])
SQUARE = CORNER + [(("b", "d"), "yes"), (("e", "e"), "no")]
BARE = Kind([], ["a", "b"], width=0)
TWO = ("no", "yes")
THREE = ("no", "yes", "if")
FIVE = ("no", "yes", "maybe", "never", "other")
# Values that are no logs; the lists of entries among them would do for one.
NO_LOGS = [0, 1, "a", [], (), PAIR, CORNER.entries(), tuple(CORNER.entries()), str(CORNER), [CORNER], (CORNER,), {"log": CORNER}]


def few_values(draw, kind, entries):
    """Return the entries with values of which there are only two for each field, so that many are alike."""
    words, numbers = draw.sample(["a", "b", "if", "z"], 2), draw.sample([-9999, 0, 3, 9999], 2)
    pairs = [words if sort == "word" else numbers for name, sort in kind.fields()]
    return [(tuple(draw.choice(pair) for pair in pairs), answer) for case, answer in entries]


def drawn_logs(seed, counts, answers=THREE):
    """Return logs of all kinds with these numbers of entries: some drawn at random, some of a rule list."""
    draw = random.Random(seed)
    logs = []
    for kind in kinds(answers):
        for count in counts:
            entries = drawn_entries(draw, kind, count)
            logs += [Log(kind, entries), Log(kind, few_values(draw, kind, entries))]
            logs += [Log(kind, entries_of_list(draw, kind, count)), Log(kind, (entries * 2)[:17])]
    return logs


def logs_of_lists(seed, counts, answers=THREE):
    """Return logs of all kinds with the answers of a rule list, so that a list explains them."""
    draw = random.Random(seed)
    return [Log(kind, entries_of_list(draw, kind, count)) for kind in kinds(answers) for count in counts]


def logs_with_contradictions(seed, counts):
    """Return logs of all kinds in which two entries contradict each other."""
    draw = random.Random(seed)
    logs = []
    for kind in kinds():
        for count in counts:
            case, answer = drawn_entries(draw, kind, 1)[0]
            entries = [*entries_of_list(draw, kind, count - 2), (case, answer)]
            other = draw.choice([word for word in kind.answers() if word != answer])
            entries.insert(draw.randint(0, count - 1), (case, other))
            logs.append(Log(kind, entries))
    return logs


def turns(kind, case, answers, count):
    """Return a log of one case that gets some answers in turn."""
    return Log(kind, [(case, answers[at % len(answers)]) for at in range(count)])


def logs_of_changed_rules(seed, counts, answers=THREE):
    """Return logs of all kinds whose rules change once or twice on the way."""
    draw = random.Random(seed)
    logs = []
    for kind in kinds(answers):
        for count in counts:
            parts = [few_values(draw, kind, entries_of_list(draw, kind, part)) for part in (count // 2, count - count // 2)]
            logs.append(Log(kind, parts[0] + parts[1]))
    return logs
