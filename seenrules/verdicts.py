"""Which answers are possible for a case, if the rules were never changed."""

from seenrules.cores import check_explained, is_core, small_core
from seenrules.kinds import check_case
from seenrules.logs import check_log, check_room
from seenrules.stripping import is_explained_by, rules_for


def check_question(log, case):
    """Raise the exceptions for a log that has no room for one more entry, and for what is not a log or a case."""
    check_log(log)
    check_case(log.kind, case)
    check_room(log)


def word_for(possible_answers):
    """Return "sure" for a single possible answer, and "open" otherwise."""
    return "sure" if len(possible_answers) == 1 else "open"


def verdict(log, case):
    """Return "sure" or "open", lists that give the possible answers, and cores against the other ones."""
    check_question(log, case)
    check_explained(log)
    lists = {}
    cores = {}
    for answer in log.kind.answers():
        longer = log + [(case, answer)]
        rules = rules_for(longer)
        if rules is None:
            cores[answer] = small_core(longer)
        else:
            lists[answer] = rules
    return (word_for(lists), lists, cores)


def possible(log, case):
    """Return the list of the possible answers for a case."""
    check_question(log, case)
    check_explained(log)
    return [answer for answer in log.kind.answers() if rules_for(log + [(case, answer)]) is not None]


def is_shown(log, answer, lists, cores):
    """Tell whether a list shows that the last answer of a log is possible, or a core that it is not."""
    if answer in lists:
        return is_explained_by(log, lists[answer])
    return answer in cores and is_core(log, cores[answer])


def is_verdict(log, case, value):
    """Tell whether any value is a verdict on a case."""
    check_question(log, case)
    if not isinstance(value, tuple) or len(value) != 3:
        return False
    word, lists, cores = value
    if not isinstance(lists, dict) or not isinstance(cores, dict):
        return False
    answers = log.kind.answers()
    # With as many keys as answers, and each answer among them, no key is another one or in both dicts.
    if len(lists) + len(cores) != len(answers) or word != word_for(lists):
        return False
    return all([is_shown(log + [(case, answer)], answer, lists, cores) for answer in answers])
