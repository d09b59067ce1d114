"""The desk: plans under names, the changes of them that are remembered, and lines that ask about them."""

from threeswaps.commands import read_line
from threeswaps.errors import InvalidName, NothingToUndo, UnknownName
from threeswaps.formulas import evaluate, is_name, read_formula
from threeswaps.questions import answer, number_text
from threeswaps.swaps import fewest_swaps


class Desk:
    """Plans under names. Let, drop and undo change it; it remembers the last lets and drops."""

    MAX_CHANGES = 20

    def __init__(self, **plans):
        for name in sorted(list(plans)):
            if not is_name(name):
                raise InvalidName(name)
        self._plans = {name: plans[name] for name in plans}
        # For each remembered change the name, and the plan that it had before or None.
        self._former = []

    @property
    def changes(self):
        """How many changes are remembered."""
        return len(self._former)

    def names(self):
        """The sorted list of the names."""
        return sorted(list(self._plans))

    def plan(self, name):
        """The plan with this name."""
        if name not in self:
            raise UnknownName(name)
        return self._plans[name]

    def __len__(self):
        return len(self._plans)

    def __contains__(self, x):
        return isinstance(x, str) and x in self._plans

    def let(self, name, text):
        """Give the name the plan that is the value of the formula with this text, and return the plan."""
        if not is_name(name):
            raise InvalidName(name)
        plan = evaluate(read_formula(text), self._plans)
        self._remember(name)
        self._plans[name] = plan
        return plan

    def drop(self, name):
        """Remove the plan with this name."""
        if name not in self:
            raise UnknownName(name)
        self._remember(name)
        del self._plans[name]

    def undo(self):
        """Take back the last change that is still remembered."""
        if not self._former:
            raise NothingToUndo()
        name, plan = self._former.pop()
        if plan is None:
            del self._plans[name]
        else:
            self._plans[name] = plan

    def ask(self, line):
        """Do what the line says and return the answer."""
        word, texts, places = read_line(line)
        if word == "let":
            name, text = texts
            plan = self.let(name, text)
            return f"{name} = {plan}"
        if word == "drop":
            self.drop(texts[0])
            return f"dropped {texts[0]}"
        if word == "undo":
            self.undo()
            return "undone"
        formulas = [read_formula(text) for text in texts]
        plans = [evaluate(formula, self._plans) for formula in formulas]
        return answer(word, plans, places)

    def run(self, lines):
        """Do the lines of a list one after another, all or none of them, and return the list of the answers."""
        trial = Desk()
        trial._plans = {name: self._plans[name] for name in self._plans}
        trial._former = list(self._former)
        answers = [trial.ask(line) for line in lines]
        self._plans = trial._plans
        self._former = trial._former
        return answers

    def rows(self):
        """A string for each name, sorted: the name, the period, the flow and the least number of swaps."""
        return [_row(name, self._plans[name]) for name in self.names()]

    def _remember(self, name):
        """Remember which plan the name has before it is changed."""
        former = self._former + [(name, self._plans.get(name))]
        self._former = former[-Desk.MAX_CHANGES:]


def _row(name, plan):
    """The row of a name and its plan, whose columns are filled up with spaces."""
    swaps = number_text(fewest_swaps(plan), "-")
    return f"{name:<8}{plan.period:>6}{plan.flow:>8}{swaps:>2}"
