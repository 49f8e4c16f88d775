"""Which answers are possible for a case, if the rules were never changed."""

from seenrules.cores import check_left, is_core_in
from seenrules.kinds import check_case
from seenrules.logs import check_log, check_room
from seenrules.questions import Question
from seenrules.stripping import is_explained_by
from seenrules.tables import Table, rivals_of


def check_question(log, case):
    """Raise the exceptions for a log that has no room for one more entry, and for what is not a log or a case."""
    check_log(log)
    check_case(log.kind, case)
    check_room(log)


def word_for(possible_answers):
    """Return "sure" for a single possible answer, and "open" otherwise."""
    return "sure" if len(possible_answers) == 1 else "open"


def verdict(log, case):
    """Return "sure" or "open", lists that give the possible answers, and cores against the other ones."""
    check_question(log, case)
    table = Table(log, [case])
    question = Question(table, len(log), case)
    left, struck = question.struck_beside(table.entered)
    check_left(table.left_in(left))
    ways = question.ways(left)
    impossible = [answer for answer in log.kind.answers() if answer not in ways]
    return (word_for(ways), question.lists(struck, left, ways), question.cores(left, impossible))


def possible(log, case):
    """Return the list of the possible answers for a case."""
    check_question(log, case)
    table = Table(log, [case])
    question = Question(table, len(log), case)
    left = question.struck_beside(table.entered)[0]
    check_left(table.left_in(left))
    return list(question.ways(left))


def is_verdict(log, case, value):
    """Tell whether any value is a verdict on a case."""
    check_question(log, case)
    if not isinstance(value, tuple) or len(value) != 3:
        return False
    word, lists, cores = value
    if not isinstance(lists, dict) or not isinstance(cores, dict):
        return False
    answers = log.kind.answers()
    # With as many keys as answers, and each answer among them, no key is another one or in both dicts.
    if len(lists) + len(cores) != len(answers) or word != word_for(lists):
        return False
    table = Table(log.inserted(len(log), case, answers[0]))
    for answer in answers:
        if answer in lists:
            shown = is_explained_by(log.kind, [*log.entries(), (case, answer)], lists[answer])
        else:
            shown = answer in cores and is_core_in(table, rivals_of([*table.words[:-1], answer]), cores[answer])
        if not shown:
            return False
    return True
