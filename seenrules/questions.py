"""What the lists that explain a log can answer to one more case, asked for all answers at once.

As long as the answer to the case is open, no condition that it meets can strike anything.
So first all strikes are made whose conditions the case does not meet, the same for each
answer. An answer is possible exactly if then a condition that the case meets is met by
entries with this answer only, or by none: if the case is struck, nothing is in the way
of striking the rest, as a list explains the log.
"""

from seenrules.stripping import rule_list_of
from seenrules.tables import indexes_of, row_of, struck_in


class Question:
    """One of the cases of a table, without any entry that it belongs to."""

    def __init__(self, table, index, case):
        row = row_of(table.columns, case)
        self.table = table
        self.sets_beside = [met for met in table.sets if not met >> index & 1]
        self.own_made_of = table.conditions_of(row, [row])
        # Backward, so that conditions of fewer tests stand in front.
        self.own_sets = list(self.own_made_of)[::-1]

    def struck_beside(self, chosen):
        """Return the set of the entries that strikes beside the case leave of a set, and the list of these strikes."""
        return struck_in(self.sets_beside, self.table.rivals, chosen)

    def ways(self, left):
        """Return a dict from each possible answer, if such strikes leave a set, to a set that may be struck with it."""
        answers = self.table.own_log.kind.answers()
        found = {}
        for met in self.own_sets:
            here = met & left
            if not here:
                return {answer: met for answer in answers}
            last = here.bit_length()
            if not here & self.table.rivals[last]:
                found.setdefault(self.table.words[last - 1], met)
        return {answer: found[answer] for answer in answers if answer in found}

    def answers_by(self, chosen):
        """Return the list of the possible answers by a set of entries that a list explains."""
        return list(self.ways(self.struck_beside(chosen)[0]))

    def is_stuck(self, left, others):
        """Tell whether no condition can strike the case if strikes beside it leave a set; others answer otherwise."""
        rivals = left & others
        for met in self.own_sets:
            if not met & rivals:
                return False
        return True

    def lists(self, struck, left, ways):
        """Return a dict from each answer of ways to a rule list that explains the log and gives it to the case."""
        table = self.table
        rules = table.rules_of(struck, table.words)
        behind = {}
        found = {}
        for answer in ways:
            met = ways[answer]
            if met not in behind:
                more = struck_in(table.sets, table.rivals, left & ~met)[1]
                behind[met] = table.rules_of(more, table.words)
            rule = (table.tests_of(self.own_made_of[met]), answer)
            found[answer] = rule_list_of(table.own_log.kind, [*rules, rule, *behind[met]])
        return found

    def core_against(self, left, others):
        """Return the indexes of a core of what is left and the case that contains no other core; without the case."""
        core = left
        for index in indexes_of(left):
            if core >> index & 1:
                rest = self.struck_beside(core ^ (1 << index))[0]
                if self.is_stuck(rest, others):
                    core = rest
        return indexes_of(core)

    def cores(self, left, answers):
        """Return a dict from each of some answers that are not possible to a core with the case behind the entries."""
        table = self.table
        known = {}
        found = {}
        for answer in answers:
            # All answers that no entry has are alike.
            others = table.rivals[table.words.index(answer) + 1] if answer in table.words else table.entered
            if others not in known:
                known[others] = self.core_against(left, others)
            found[answer] = [*known[others], len(table.words)]
        return found
