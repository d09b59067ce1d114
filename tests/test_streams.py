import itertools
import unittest

from threeswaps.cuts import delay, holds
from threeswaps.plans import Plan
from threeswaps.streams import Stream, deliveries
from cases import Case
from samples import SMALL_TABLES, TABLES, Sly, Thing, Wild

# The document says nothing about streams with long delays.
PLANS = [plan for plan in [Plan(offsets) for offsets in TABLES + SMALL_TABLES]
         if max(plan.offsets()) < 200 and min(plan.offsets()) > -200]
FAN, SLIDE, TURN, STILL = Plan([3, 1, -4]), Plan([2, -2]), Plan([1, 1, -2]), Plan([0])
LETTERS = "abcdefghijklmnopqrstuvwxyz"


def leaving(plan, many):
    """A dict from the moments at which the first items leave to their numbers, by the plan and its delay alone."""
    return {plan.at(x) + delay(plan): x for x in range(many)}


def awaited(plan, items, gap, first=0):
    """What leaves from a moment on until all items have left."""
    moments = leaving(plan, len(items))
    last = max([len(items) - 1, *moments])
    return [items[moments[at]] if at in moments else gap for at in range(first, last + 1)]


class StreamCase(Case):

    def all_there(self, found, expected):
        """Check that two lists hold the very same objects."""
        self.assertEqual(len(found), len(expected))
        for here, there in zip(found, expected):
            self.assertIs(here, there)


class Pushes(StreamCase):

    def test_what_leaves_at_each_moment(self):
        for plan in PLANS:
            for many in (1, 2, 7, 25):
                items, gap = [Thing() for _ in range(many)], Thing()
                stream = Stream(plan, gap=gap)
                found = [stream.push(item) for item in items]
                self.all_there(found + list(stream.rest()), awaited(plan, items, gap))

    def test_moment_and_waiting(self):
        for plan in PLANS:
            stream = Stream(plan)
            self.same([stream.moment, stream.waiting, list(stream.rest())], [0, 0, []])
            for many in range(1, 30):
                stream.push(many)
                self.same(stream.moment, many)
                self.same(stream.waiting, len([at for at in leaving(plan, many) if at >= many]))

    def test_never_more_wait_than_the_delayed_plan_holds(self):
        for plan in PLANS:
            stream, most = Stream(plan), 0
            for number in range(60 + 2 * delay(plan) + 2 * max(plan.offsets())):
                stream.push(number)
                self.assertLessEqual(stream.waiting, holds(plan))
                most = max(most, stream.waiting)
            self.assertGreaterEqual(most, holds(plan) - 1)

    def test_the_example(self):
        stream = Stream(SLIDE, gap="-")
        self.same([stream.push("a"), stream.push("b"), stream.push("c"), stream.waiting, list(stream.rest())],
                  ["-", "b", "-", 2, ["-", "a", "-", "c"]])
        self.same([stream.push("d"), stream.push("e"), stream.push("f")], ["d", "a", "f"])

    def test_an_item_that_does_not_wait(self):
        for plan in (STILL, Plan.shift(-7)):
            stream = Stream(plan, gap="-")
            self.same([stream.push(n) for n in range(5)], [0, 1, 2, 3, 4])
            self.same([stream.waiting, stream.moment, list(stream.rest())], [0, 5, []])

    def test_a_plan_that_goes_up(self):
        stream = Stream(Plan.shift(3), gap="-")
        self.same([stream.push(letter) for letter in "abcde"], ["-", "-", "-", "a", "b"])
        self.same([stream.waiting, list(stream.rest())], [3, ["c", "d", "e"]])

    def test_the_default_gap(self):
        stream = Stream(plan=Plan.shift(1))
        self.same([stream.push("a"), stream.push(item="b")], [None, "a"])
        self.same(list(Stream(SLIDE).rest()), [])

    def test_a_long_delay(self):
        plan = Plan([1000, -1000])
        found = deliveries(plan, list(range(2000)))
        self.same(found, awaited(plan, list(range(2000)), None))
        self.same([delay(plan), len(found)], [1000, 3999])

    def test_the_gap_is_passed_by_name(self):
        with self.assertRaises(TypeError):
            Stream(SLIDE, "-")
        with self.assertRaises(TypeError):
            deliveries(SLIDE, [], "-")


class Items(StreamCase):

    def check(self, items, gap):
        for plan in (FAN, SLIDE, TURN, STILL, Plan.shift(2), Plan.shift(-2), Plan([4, 1, 7, 0])):
            stream = Stream(plan, gap=gap)
            found = []
            for item in items:
                found.append(stream.push(item))
                moments = leaving(plan, stream.moment)
                self.same(stream.waiting, len([at for at in moments if at >= stream.moment]))
            self.all_there(found + list(stream.rest()), awaited(plan, items, gap))
            self.all_there(deliveries(plan, items, gap=gap), awaited(plan, items, gap))

    def test_items_that_are_none(self):
        self.check([None] * 9, None)
        self.check([None, 1, None, None, 2, None, None], "-")

    def test_items_like_the_gap(self):
        gap = Thing()
        self.check([gap] * 9, gap)
        self.check(["-", "a", "-", "-", "b", "-", "-", "-"], "-")
        self.check([0, False, 0, "", [], ()], 0)

    def test_items_that_are_equal_to_each_other(self):
        self.check([[1] for _ in range(9)], [1])
        self.check([1, True, 1, True, 1, True], True)

    def test_items_that_cannot_be_compared(self):
        self.check([Wild() for _ in range(9)], Wild())
        self.check([Sly() for _ in range(9)], Sly())

    def test_lists_that_are_changed_later(self):
        for plan in (SLIDE, FAN, Plan.shift(4)):
            items = [[n] for n in range(8)]
            stream = Stream(plan)
            found = [stream.push(item) for item in items]
            for item in items:
                item.append("later")
            found += list(stream.rest())
            self.all_there(found, awaited(plan, items, None))
            self.assertEqual([item for item in found if item == [3, "later"]], [items[3]])


class Rest(StreamCase):

    def test_amid_the_pushes(self):
        for plan in PLANS[::2]:
            stream, items = Stream(plan, gap="-"), []
            for letter in LETTERS[:15]:
                items.append(letter)
                stream.push(letter)
                self.same(list(stream.rest()), awaited(plan, items, "-", len(items)))

    def test_it_ends_when_nothing_waits(self):
        for plan in PLANS:
            stream = Stream(plan, gap="-")
            for letter in LETTERS:
                stream.push(letter)
                rest = list(stream.rest())
                self.assertEqual(len([item for item in rest if item != "-"]), stream.waiting)
                self.assertTrue(not rest or rest[-1] != "-")

    def test_it_changes_nothing(self):
        for plan in PLANS:
            stream, other = Stream(plan, gap="-"), Stream(plan, gap="-")
            for letter in LETTERS:
                list(stream.rest()), next(stream.rest(), None)
                before = (stream.moment, stream.waiting, list(stream.rest()))
                self.assertEqual((stream.moment, stream.waiting, list(stream.rest())), before)
                self.same(stream.push(letter), other.push(letter))
            self.same(list(stream.rest()), list(other.rest()))

    def test_left_early_and_two_by_turns(self):
        stream = Stream(SLIDE, gap="-")
        for letter in "abc":
            stream.push(letter)
        one, other = stream.rest(), stream.rest()
        self.assertEqual([next(one), next(one), next(other), next(one), next(other)], ["-", "a", "-", "-", "a"])
        self.assertEqual([list(other), list(one), list(stream.rest())], [["-", "c"], ["c"], ["-", "a", "-", "c"]])
        left = stream.rest()
        next(left)
        del left
        self.same([stream.moment, stream.waiting, stream.push("d"), list(stream.rest())], [3, 2, "d", ["a", "-", "c"]])

    def test_of_an_empty_stream(self):
        for plan in PLANS:
            self.same(list(Stream(plan, gap="-").rest()), [])


class Several(StreamCase):

    def test_streams_by_turns(self):
        plans = (FAN, SLIDE, FAN, TURN)
        streams = [Stream(plan, gap=number) for number, plan in enumerate(plans)]
        passed = [[f"{number}{letter}" for letter in LETTERS] for number in range(4)]
        found = [[], [], [], []]
        for at in range(26):
            for number, stream in enumerate(streams):
                found[number].append(stream.push(passed[number][at]))
        for number, plan in enumerate(plans):
            self.same(found[number] + list(streams[number].rest()), awaited(plan, passed[number], number))


class Deliveries(StreamCase):

    def test_against_the_moments(self):
        for plan in PLANS:
            for many in (0, 1, 2, 3, 10, 23):
                items = list(range(many))
                self.same(deliveries(plan, items), awaited(plan, items, None) if many else [])
                self.same(deliveries(plan, tuple(items), gap="-"), awaited(plan, items, "-") if many else [])
                self.same(items, list(range(many)))

    def test_all_items_are_delivered_once(self):
        for plan in PLANS:
            found = deliveries(plan, LETTERS.split() + list(LETTERS), gap="")
            self.assertEqual(sorted(item for item in found if item), sorted(LETTERS.split() + list(LETTERS)))

    def test_no_items(self):
        for plan, items in itertools.product((FAN, STILL, Plan.shift(9)), ([], ())):
            self.same(deliveries(plan, items), [])
            self.same(deliveries(plan, items, gap="-"), [])

    def test_by_name(self):
        self.same(deliveries(gap="-", items=["a", "b"], plan=SLIDE), ["-", "b", "-", "-", "a"])
        self.same(deliveries(SLIDE, ["a", "b", "c", "d"]), [None, "b", None, "d", "a", None, "c"])

    def test_the_lists_are_new(self):
        items = ["a", "b"]
        found = deliveries(STILL, items)
        self.assertIsNot(found, items)
        found.append("more")
        self.assertEqual([items, deliveries(STILL, items)], [["a", "b"], ["a", "b"]])
        self.assertIsNot(deliveries(STILL, []), deliveries(STILL, []))


if __name__ == "__main__":
    unittest.main()
