"""What all rules must do, checked at many places."""

from threeswaps.errors import InvalidInteger, TooLong
from cases import Case
from samples import FAR, NO_INTEGERS, PLACES


def moved(moves, x):
    """The place to which the moves, the first one done first, move x."""
    for move in moves:
        x = move.at(x)
    return x


class RuleCase(Case):

    def is_rule(self, rule, sign=1):
        """Check that at and back undo each other, and that a shift by the period is carried through by the sign."""
        period = rule.period
        self.assertIs(period.__class__, int)
        self.assertTrue(1 <= period < 10 ** 3900)
        for x in PLACES[::3]:
            self.same([rule.back(rule.at(x)), rule.at(rule.back(x)), rule(x)], [x, x, rule.at(x)])
            for times in (1, -1, FAR):
                self.same(rule.at(x + times * period), rule.at(x) + sign * times * period)
                self.same(rule.back(x + times * period), rule.back(x) + sign * times * period)

    def is_own_inverse(self, rule):
        """Check that a rule is its own inverse."""
        for x in PLACES:
            self.same([rule.at(rule.at(x)), rule.back(x)], [x, rule.at(x)])

    def has_table(self, rule, table):
        """Check what the method table tells of a rule: the move with its table, or that its period is too long."""
        if rule.period > 2520:
            self.raises(TooLong, [rule.period], table)
            return None
        move = table()
        self.same([move.at(x) for x in PLACES], [rule.at(x) for x in PLACES])
        self.same([move.back(x) for x in PLACES], [rule.back(x) for x in PLACES])
        self.same(rule.period % move.period, 0)
        return move

    def wants_integers(self, *calls):
        """Check that the calls tell each value that is no INTEGER where they want a place."""
        for value in NO_INTEGERS:
            for call in calls:
                self.told_itself(InvalidInteger, value, call, value)
                self.told_itself(InvalidInteger, value, call, x=value)
