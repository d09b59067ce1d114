"""Questions: what the words that ask a desk about plans want to know, and the texts of the answers."""

from threeswaps.cuts import delay
from threeswaps.meetings import first_meeting
from threeswaps.profiles import Profile
from threeswaps.renamings import alike
from threeswaps.roots import order, root_bound
from threeswaps.swaps import fewest_closed, fewest_swaps


def answer(word, plans, places):
    """The answer to the question of the word about the plans, and about the places of a question that tells some."""
    if word == "at":
        return str(plans[0].at(places[0]))
    if word == "alike":
        return "yes" if alike(plans[0], plans[1]) else "no"
    if word == "meet":
        return number_text(first_meeting(plans[0], places[0], plans[1], places[1]), "never")
    action = ABOUT_A_PLAN[word]
    return action(plans[0])


def number_text(value, missing):
    """The text of a number, or the other text for None."""
    return missing if value is None else str(value)


def _period(plan):
    return str(plan.period)


def _flow(plan):
    return str(plan.flow)


def _delay(plan):
    return str(delay(plan))


def _profile(plan):
    return str(Profile.of(plan))


def _least(plan):
    return str(Profile.of(plan).least_period)


def _swaps(plan):
    return number_text(fewest_swaps(plan), "none")


def _closed(plan):
    return number_text(fewest_closed(plan), "none")


def _roots(plan):
    bound = root_bound(plan)
    # Without lines, whose numbers it divides, the bound is 0 and a plan has roots of all orders.
    return "all" if bound == 0 else str(bound)


def _order(plan):
    return number_text(order(plan), "none")


ABOUT_A_PLAN = {
    "period": _period, "flow": _flow, "delay": _delay, "profile": _profile, "least": _least, "swaps": _swaps,
    "closed": _closed, "roots": _roots, "order": _order,
}
