import itertools
import unittest

from threeswaps.cuts import delay
from threeswaps.desk import Desk
from threeswaps.errors import (
    InvalidFormula, InvalidLine, InvalidName, InvalidTable, NothingToUndo, TooLong, TooMany, UnknownName,
)
from threeswaps.meetings import first_meeting
from threeswaps.plans import Plan
from threeswaps.profiles import Profile
from threeswaps.renamings import alike
from threeswaps.roots import order, root_bound
from threeswaps.swaps import fewest_closed, fewest_swaps
from cases import Case
from samples import CLOSED_TABLES, CROWD, HUGE, NO_INTEGERS, STREETS, TABLES, Thing

FAN, SLIDE, TWIN, TURN, FLIP, STILL = [Plan(table) for table in (
    [3, 1, -4], [2, -2], [4, 1, 7, 0], [1, 1, -2], [1, -1], [0])]
NO_STRINGS = [value for value in NO_INTEGERS if not isinstance(value, str)] + [0, 1, ["undo"], ("undo",), b"undo"]
NO_NAMES = NO_STRINGS + ["", "F", "fG", "f1", "f_", "f g", " f", "f ", "abcdefghi", "[0]", "f;", "f=", "-"]


def with_period(period):
    """A plan that has just this period, from 2 on."""
    return Plan([1, -1] + [0] * (period - 2))


def state(desk):
    """All that a desk tells of its plans and changes."""
    return [[(name, desk.plan(name).offsets()) for name in desk.names()], desk.changes, len(desk), desk.rows()]


class DeskCase(Case):

    def fails(self, error, told, desk, call, *values, **named):
        """Check that a call raises an error, and that the desk is as before."""
        before = state(desk)
        self.raises(error, told, call, *values, **named)
        self.same(state(desk), before)

    def wrong(self, line, desk=None):
        """Check that a value is no line."""
        desk = desk or Desk(f=SLIDE, g=FAN)
        before = state(desk)
        self.told_itself(InvalidLine, line, desk.ask, line)
        self.told_itself(InvalidLine, line, desk.ask, line=line)
        self.same(state(desk), before)


class Making(DeskCase):

    def test_plans_under_names(self):
        desk = Desk(f=SLIDE, abcdefgh=FAN, g=STILL)
        self.same(desk.names(), ["abcdefgh", "f", "g"])
        self.same([desk.plan("f"), desk.plan("abcdefgh"), desk.plan(name="g")], [SLIDE, FAN, STILL])
        self.same([len(desk), desk.changes, Desk.MAX_CHANGES], [3, 0, 20])
        self.same([len(Desk()), Desk().names(), Desk().changes, Desk().rows()], [0, [], 0, []])

    def test_wrong_keywords(self):
        for name in ("F", "a1", "abcdefghi", "", "f g", "a_b", "_", "f ", "[0]"):
            self.raises(InvalidName, [name], lambda: Desk(**{name: SLIDE}))
            self.raises(InvalidName, [name], lambda: Desk(**{"f": SLIDE, name: SLIDE, "zz": FAN}))

    def test_the_first_wrong_keyword_in_sorted_order(self):
        for names in itertools.permutations(["a", "b1", "Z", "abcdefghij", "zz"]):
            self.raises(InvalidName, ["Z"], lambda: Desk(**{name: SLIDE for name in names}))
        self.raises(InvalidName, ["b1"], lambda: Desk(zzzzzzzzz=FAN, c2=FAN, a=FAN, b1=FAN))

    def test_the_dict_is_copied(self):
        plans = {"f": SLIDE}
        desk = Desk(**plans)
        plans["g"] = FAN
        desk.let("h", "f")
        self.same([desk.names(), sorted(plans)], [["f", "h"], ["f", "g"]])

    def test_in(self):
        desk = Desk(f=SLIDE, abc=FAN)
        self.same(["f" in desk, "abc" in desk, "g" in desk, "F" in desk, "ab" in desk, "" in desk],
                  [True, True, False, False, False, False])
        for value in NO_NAMES + [SLIDE, Thing(), {"f": 1}, ["f"], ("f",), b"f"]:
            self.assertIs(value in desk, False)

    def test_plan_for_any_value(self):
        desk = Desk(f=SLIDE)
        for value in NO_NAMES + ["g", "ff"]:
            with self.assertRaises(UnknownName) as found:
                desk.plan(value)
            self.assertIs(found.exception.name, value)
        self.raises(UnknownName, ["g"], desk.plan, name="g")

    def test_the_list_is_new(self):
        desk = Desk(f=SLIDE)
        desk.names().clear()
        desk.rows().clear()
        desk.plan("f").offsets().clear()
        self.same([desk.names(), desk.rows(), desk.plan("f")], [["f"], ["f            2       0 2"], SLIDE])


class Changing(DeskCase):

    def test_let(self):
        desk = Desk(f=SLIDE)
        self.same(desk.let("g", "f^2 [1]"), Plan([5, -3]))
        self.same([desk.names(), desk.plan("g"), desk.changes, len(desk), "g" in desk],
                  [["f", "g"], Plan([5, -3]), 1, 2, True])
        self.same(desk.let(text="g g", name="g"), Plan([5, -3]).power(2))
        self.same([desk.names(), desk.changes], [["f", "g"], 2])
        self.same(desk.let("self", "f"), SLIDE)
        self.same(desk.names(), ["f", "g", "self"])

    def test_errors_of_let(self):
        desk = Desk(f=SLIDE, a=with_period(2520), b=with_period(11))
        for value in NO_NAMES:
            before = state(desk)
            self.told_itself(InvalidName, value, desk.let, value, "f")
            self.told_itself(InvalidName, value, desk.let, text="((", name=value)
            self.same(state(desk), before)
        for value in NO_STRINGS:
            self.fails(InvalidFormula, [0], desk, desk.let, "g", value)
        self.fails(InvalidFormula, [1], desk, desk.let, "g", "")
        self.fails(InvalidFormula, [3], desk, desk.let, "f", "h ")
        self.fails(UnknownName, ["h"], desk, desk.let, "h", "h")
        self.fails(InvalidTable, ["meeting", 1, 0], desk, desk.let, "f", "[1,0]")
        self.fails(TooLong, [27720], desk, desk.let, "f", "a b")
        self.fails(UnknownName, ["c"], desk, desk.let, "f", "a b [1,0] c")

    def test_drop(self):
        desk = Desk(f=SLIDE, g=FAN)
        self.assertIsNone(desk.drop("f"))
        self.same([desk.names(), desk.changes, "f" in desk, len(desk)], [["g"], 1, False, 1])
        self.assertIsNone(desk.drop(name="g"))
        self.same([desk.names(), desk.changes, desk.rows()], [[], 2, []])
        for value in NO_NAMES + ["f", "h"]:
            before = state(desk)
            with self.assertRaises(UnknownName) as found:
                desk.drop(value)
            self.assertIs(found.exception.name, value)
            self.same(state(desk), before)

    def test_undo(self):
        desk = Desk(f=SLIDE)
        states = [state(desk)]
        for change in (lambda: desk.let("g", "f^2"), lambda: desk.let("f", "[1]"), lambda: desk.drop("g"),
                       lambda: desk.let("f", "f"), lambda: desk.let("g", "[0]"), lambda: desk.drop("f"),
                       lambda: desk.let("g", "[0]"), lambda: desk.drop("g"), lambda: desk.let("f", "[2,-2]")):
            change()
            states.append(state(desk))
        for expected in states[-2::-1]:
            self.assertIsNone(desk.undo())
            self.same(state(desk), expected)
        self.fails(NothingToUndo, [], desk, desk.undo)
        self.fails(NothingToUndo, [], desk, desk.ask, "undo")

    def test_undoing_is_no_change(self):
        desk = Desk(f=SLIDE)
        desk.let("f", "[1]")
        desk.undo()
        self.same([desk.changes, desk.plan("f")], [0, SLIDE])
        self.fails(NothingToUndo, [], desk, desk.undo)
        desk.let("f", "[2]")
        desk.let("f", "[3]")
        desk.undo()
        desk.let("f", "[4]")
        desk.undo()
        self.same([desk.plan("f"), desk.changes], [Plan([2]), 1])

    def test_a_change_that_leaves_things_as_they_were(self):
        desk = Desk(f=SLIDE)
        desk.let("f", "f")
        self.same([desk.changes, desk.plan("f")], [1, SLIDE])
        desk.undo()
        self.same([desk.changes, desk.plan("f")], [0, SLIDE])

    def test_how_many_changes_are_remembered(self):
        for many in (19, 20, 21, 45):
            desk = Desk(f=STILL)
            for n in range(1, many + 1):
                desk.let("f", f"[{n}]")
                self.same(desk.changes, min(n, 20))
            for n in range(min(many, 20)):
                desk.undo()
                self.same([desk.plan("f"), desk.changes], [Plan([many - n - 1]), min(many, 20) - n - 1])
            self.fails(NothingToUndo, [], desk, desk.undo)
            self.same(desk.plan("f"), Plan([max(0, many - 20)]))

    def test_drops_are_remembered_too(self):
        desk = Desk(f=STILL, g=SLIDE)
        for _ in range(13):
            desk.drop("f")
            desk.let("f", "g")
        self.same(desk.changes, 20)
        for _ in range(20):
            desk.undo()
        self.same([desk.names(), desk.plan("f"), desk.changes], [["f", "g"], SLIDE, 0])

    def test_changes_after_undoing(self):
        desk = Desk()
        for n in range(25):
            desk.let("f", f"[{n}]")
        for _ in range(5):
            desk.undo()
        for n in range(30, 33):
            desk.let("f", f"[{n}]")
        self.same(desk.changes, 18)
        for _ in range(18):
            desk.undo()
        self.same([desk.plan("f"), desk.changes], [Plan([4]), 0])

    def test_two_desks(self):
        one, other = Desk(f=SLIDE), Desk(f=SLIDE)
        one.let("f", "[1]")
        one.let("g", "[2]")
        other.let("h", "f")
        self.same([one.names(), other.names(), one.changes, other.changes], [["f", "g"], ["f", "h"], 2, 1])
        other.undo()
        self.same([one.plan("f"), other.plan("f"), one.changes, other.changes], [Plan([1]), SLIDE, 2, 0])


class Questions(DeskCase):

    PLANS = [Plan(table) for table in TABLES[::3] + CLOSED_TABLES + [CROWD, STREETS]]

    def test_the_questions_about_one_plan(self):
        answers = set()
        for plan in self.PLANS:
            desk = Desk(f=plan, g=STILL)
            before = state(desk)
            profile = Profile.of(plan)
            expected = {
                "period": str(plan.period), "flow": str(plan.flow), "delay": str(delay(plan)), "profile": str(profile),
                "least": str(profile.least_period), "roots": str(root_bound(plan)) if profile.lines() else "all",
                "swaps": "none" if fewest_swaps(plan) is None else str(fewest_swaps(plan)),
                "closed": "none" if fewest_closed(plan) is None else str(fewest_closed(plan)),
                "order": "none" if order(plan) is None else str(order(plan)),
            }
            for word, text in expected.items():
                self.same(desk.ask(f"{word} f"), text)
                self.same(desk.ask(line=f"{word} (g f)^1"), text)
                answers.add((word, text))
            for x in (0, 1, -7, 10 ** 60 - 1, 1 - 10 ** 60):
                self.same(desk.ask(f"at {x} f"), str(plan.at(x)))
            self.same(state(desk), before)
        for word in ("swaps", "closed"):
            self.assertTrue({(word, text) for text in ("none", "0", "1", "2")} <= answers)
        self.assertTrue({("swaps", "3"), ("roots", "all"), ("roots", "1"), ("order", "none"),
                         ("order", "1")} <= answers)

    def test_some_answers(self):
        desk = Desk(f=SLIDE, fan=FAN, twin=TWIN, turn=TURN)
        for line, text in (
                ("period f", "2"), ("period twin fan", "12"), ("flow twin", "3"), ("flow twin^-2", "-6"),
                ("delay fan", "4"), ("delay [5]", "0"), ("profile fan", "-3/2:1, 3:1"), ("least fan f^0", "3"),
                ("profile twin", "4:3, (1):1/4"), ("profile [0]", "(1):1"), ("swaps fan", "3"), ("swaps f", "2"),
                ("swaps [1]", "none"), ("swaps [0]", "0"), ("swaps [1,-1]", "1"), ("closed turn", "1"),
                ("closed [1]", "none"), ("closed [0]", "0"), ("closed f", "2"), ("roots twin", "3"),
                ("roots turn", "all"), ("roots [-12]", "12"), ("order turn", "3"), ("order f", "none"),
                ("at 3 f [1]", "2"), ("at -7 [0]", "-7"), ("at 0 f", "2"),
                ("alike f ; f^-1", "yes"), ("alike fan ; f", "no"), ("alike fan ; fan^-1", "no"),
                ("alike [0] ; [0]", "yes"),
                ("meet 0 f ; 4 [1]", "4"), ("meet 0 f ; 1 f", "never"), ("meet 3 [0] ; 3 [0]", "0"),
                ("meet 0 turn ; 2 [0]", "2"), ("meet 0 [1] ; -8 [-1]", "never"), ("meet -8 [1] ; 0 [-1]", "4")):
            self.same(desk.ask(line), text)

    def test_two_plans(self):
        seen = []
        for one, other in itertools.product(self.PLANS[::4], self.PLANS[::3]):
            desk = Desk(f=one, g=other)
            seen.append(desk.ask("alike f ; g"))
            self.same(seen[-1], "yes" if alike(one, other) else "no")
            for x, y in ((0, 0), (3, -4)):
                met = first_meeting(one, x, other, y)
                seen.append(desk.ask(f"meet {x} f ; {y} g"))
                self.same(seen[-1], "never" if met is None else str(met))
        self.assertTrue({"yes", "no", "never", "0"} <= set(seen))
        self.assertGreater(len(set(seen)), 6)

    def test_changes(self):
        desk = Desk(f=SLIDE)
        self.same([desk.ask("let g = f^2 [1]"), desk.ask("swaps g"), desk.ask("at 3 f g"), desk.ask("undo"),
                   desk.names()],
                  ["g = [5,-3]", "none", "-2", "undone", ["f"]])
        self.same([desk.ask("let f = [0,0,0]"), desk.ask("drop f"), desk.names(), desk.changes],
                  ["f = [0]", "dropped f", [], 2])
        self.same([desk.ask("undo"), desk.ask("undo"), desk.plan("f"), desk.changes], ["undone", "undone", SLIDE, 0])
        self.same(desk.ask("let self = [1,-1]^0 f"), "self = [2,-2]")
        self.same(desk.ask(f"let up = [{10 ** 29}]^{10 ** 59}"), f"up = [{10 ** 88}]")


class Lines(DeskCase):

    def test_no_strings(self):
        for value in NO_STRINGS:
            self.wrong(value)

    def test_wrong_words(self):
        for line in ("", " ", ";", "f", "Period f", "period", "PERIOD f", "periods f", "perio f", " period f", "undone",
                     "Undo", " undo", "undo ", "undo f", "undo;", "redo", "let", "drop", "alike", "meet", "at", "let f",
                     "=", "let =", "let = ", "answer f", "names", "run", "power f", "inverse f", "answer", "_period f"):
            self.wrong(line)

    def test_questions_without_a_formula(self):
        for word in ("period", "flow", "delay", "profile", "least", "swaps", "closed", "roots", "order"):
            for rest in ("", " ", " ;", " f;", " f ; g", " ; f", " f ;g", ";f", "f", "(f)"):
                self.wrong(word + rest)
            self.raises(InvalidFormula, [1], Desk(f=FAN).ask, word + "  f")
            self.raises(InvalidFormula, [1], Desk(f=FAN).ask, word + "  ")
            self.raises(InvalidFormula, [3], Desk(f=FAN).ask, word + " f ")

    def test_wrong_lets(self):
        for line in ("let f", "let f ", "let f =", "let f = ", "let f=g", "let f =g", "let f= g", "let  = f", "let = f",
                     "let  f = g", "let f  = g", "let f g = f", "let f;g = f", "let f = g;", "let f = g ; h",
                     "let ; = f", "let f : g", "letf = g", "let = = f", "let f;", "let \n f = g"):
            self.wrong(line)

    def test_lets_of_wrong_names(self):
        desk = Desk(f=SLIDE)
        for name in ("F", "a=b", "abcdefghi", "a1", "[0]", "f^2", "(f)", "-", "f,g", "=="):
            self.fails(InvalidName, [name], desk, desk.ask, f"let {name} = f")
            self.fails(InvalidName, [name], desk, desk.ask, f"let {name} = ((")

    def test_the_first_equals_sign_in_a_let(self):
        desk = Desk(f=SLIDE)
        self.fails(InvalidFormula, [3], desk, desk.ask, "let g = f = f")
        self.fails(InvalidFormula, [1], desk, desk.ask, "let g = = f")
        self.fails(InvalidFormula, [1], desk, desk.ask, "let g =  f")
        self.fails(InvalidFormula, [3], desk, desk.ask, "let g = f ")

    def test_wrong_drops(self):
        for line in ("drop", "drop ", "drop  f", "drop f ", "drop f g", "drop f;", "drop ;", "drop; f"):
            self.wrong(line)
        desk = Desk(f=SLIDE)
        for name in ("g", "F", "[0]", "f^2", "abcdefghi", "="):
            self.fails(UnknownName, [name], desk, desk.ask, f"drop {name}")

    def test_wrong_numbers(self):
        for number in ("", "-", "+1", "01", "-01", "00", "-0", "1.0", "1_0", "x", "f", "--1", "1-", "0x1", "1" * 61,
                       "-" + "1" * 61, "1" * 100, "0" * 61, "1,2", "[1]"):
            self.wrong(f"at {number} f")
            self.wrong(f"meet {number} f ; 1 g")
            self.wrong(f"meet 1 f ; {number} g")
        desk = Desk(f=SLIDE)
        for number in ("0", "1", "-1", "10", "1" * 60, "-" + "9" * 60):
            self.same(desk.ask(f"at {number} f"), str(SLIDE.at(int(number))))
            self.same(desk.ask(f"meet {number} f ; {number} f"), "0")

    def test_wrong_places(self):
        for line in ("at f", "at 3", "at 3 ", "at  3 f", "at 3f", "at", "at ", "at f 3", "at 3 f;", "at 3 f ; g",
                     "at 3;f"):
            self.wrong(line)
        desk = Desk(f=SLIDE)
        self.fails(InvalidFormula, [1], desk, desk.ask, "at 3  f")
        self.fails(InvalidFormula, [3], desk, desk.ask, "at 3 f ")

    def test_wrong_pairs(self):
        for word, f, g in (("alike", "f", "g"), ("meet", "1 f", "2 g")):
            for line in (f"{f}", f"{f} ;", f"{f} ; ", f"{f};{g}", f"{f} ;{g}", f"{f}; {g}", f" ; {g}", f"; {g}",
                         f"{f} {g}", f"{f} ; {g} ; {g}", f"{f} ; ; {g}", f"{f} ; {g};", f"{f} : {g}", f"{f};; {g}",
                         "", " ; "):
                self.wrong(f"{word} {line}")
        for line in ("meet 1 f ; g", "meet f ; 1 g", "meet f ; g", "meet 1 f ; 2", "meet 1 ; 2 g", "meet 1 f ; 2 ",
                     "meet  1 f ; 2 g", "meet 1 f ;  2 g", "meet 1 f 2 g"):
            self.wrong(line)
        desk = Desk(f=SLIDE, g=FAN)
        self.fails(InvalidFormula, [3], desk, desk.ask, "alike f  ; g")
        self.fails(InvalidFormula, [1], desk, desk.ask, "alike f ;  g")
        self.fails(InvalidFormula, [1], desk, desk.ask, "alike  f ; g")
        self.fails(InvalidFormula, [1], desk, desk.ask, "meet 1  f ; 2 g")
        self.fails(InvalidFormula, [3], desk, desk.ask, "meet 1 f  ; 2 g")
        self.fails(InvalidFormula, [3], desk, desk.ask, "meet 1 f ; 2 g ")

    def test_the_sequence_of_the_errors(self):
        desk = Desk(f=SLIDE, a=with_period(2520), b=with_period(11), c=Plan([1] * 70 + [-70]), d=Plan([1] * 72 + [-72]))
        for error, told, line in (
                (InvalidName, ["F"], "let F = (("), (InvalidFormula, [2], "let f = ()"),
                (UnknownName, ["x"], "let f = x"),
                (UnknownName, ["x"], "let f = [1,0] x"), (InvalidTable, ["meeting", 1, 0], "let f = [1,0]"),
                (TooLong, [27720], "let f = a b"), (InvalidFormula, [4], "period x y) [1,0]"),
                (UnknownName, ["y"], "swaps a b y [1,0]"), (TooLong, [27720], "order (a b) [1,0]"),
                (InvalidFormula, [1], "alike ) ; ) )"), (InvalidFormula, [2], "alike x ; f)"),
                (InvalidFormula, [2], "alike [1,0] ; ()"), (UnknownName, ["x"], "alike x ; y"),
                (UnknownName, ["x"], "alike x ; [1,0]"), (InvalidTable, ["meeting", 1, 0], "alike [1,0] ; x"),
                (TooLong, [27720], "alike a b ; x"), (UnknownName, ["x"], "alike a ; x"),
                (InvalidFormula, [2], "alike a b ; f)"),
                (InvalidFormula, [3], "meet 1 f^ ; 2 )"), (InvalidFormula, [1], "meet 1 x ; 2 )"),
                (UnknownName, ["y"], "meet 1 c ; 2 y"), (TooMany, [5183], "meet 1 c ; 2 d"),
                (InvalidFormula, [2], "at 5 f)"), (UnknownName, ["x"], "at 5 x"), (TooLong, [27720], "at 5 b a")):
            self.fails(error, told, desk, desk.ask, line)
        self.wrong("let F = ((;", desk)
        self.wrong("alike ( ; ;", desk)
        self.wrong("meet 1 ( ; x (", desk)


class Running(DeskCase):

    def test_several_lines(self):
        desk = Desk(f=SLIDE)
        lines = ["let g = f [1]", "period g", "drop f", "undo", "at 0 g", "let g = g^2", "flow g"]
        self.same(desk.run(lines), ["g = [3,-1]", "2", "dropped f", "undone", "3", "g = [2]", "2"])
        self.same([desk.names(), desk.plan("g"), desk.changes], [["f", "g"], Plan([2]), 2])
        desk.undo()
        self.same([desk.plan("g"), desk.changes], [Plan([3, -1]), 1])
        desk.undo()
        self.same([desk.names(), desk.changes], [["f"], 0])
        self.assertEqual(lines[0], "let g = f [1]")

    def test_no_lines(self):
        desk = Desk(f=SLIDE)
        before = state(desk)
        self.same([desk.run([]), desk.run(()), desk.run(lines=[])], [[], [], []])
        self.same(state(desk), before)
        self.same(desk.run(("period f", "flow f")), ["2", "0"])

    def test_an_error_amid_the_lines(self):
        desk = Desk(f=SLIDE, fan=FAN)
        desk.let("self", "f")
        desk.drop("fan")
        for error, told, lines in (
                (UnknownName, ["x"], ["let g = f", "let f = [1]", "period x", "let h = f"]),
                (NothingToUndo, [], ["undo", "undo", "undo"]),
                (NothingToUndo, [], ["undo", "let g = f", "undo", "undo", "undo"]),
                (InvalidFormula, [2], ["drop f", "drop self", "let g = [0]", "let g = g)"]),
                (InvalidName, ["F"], ["let f = f^2"] * 30 + ["let F = f"]),
                (UnknownName, ["f"], ["drop f", "period f"]),
                (InvalidTable, ["meeting", 1, 0], ["undo", "let g = [1,0]"])):
            self.fails(error, told, desk, desk.run, lines)
            self.fails(error, told, desk, desk.run, tuple(lines))
        before = state(desk)
        for value in NO_STRINGS + ["period", "undo "]:
            self.told_itself(InvalidLine, value, desk.run, ["undo", "let g = [0]", value, "undo"])
            self.same(state(desk), before)
        desk.undo()
        self.same([desk.names(), desk.changes], [["f", "fan", "self"], 1])
        desk.undo()
        self.same([desk.names(), desk.changes], [["f", "fan"], 0])

    def test_what_is_remembered_after_many_lines(self):
        desk = Desk(f=STILL)
        self.same(desk.run([f"let f = [{n}]" for n in range(30)]), [f"f = [{n}]" for n in range(30)])
        self.same(desk.changes, 20)
        self.fails(NothingToUndo, [], desk, desk.run, ["undo"] * 21)
        self.same(desk.run(["undo"] * 20), ["undone"] * 20)
        self.same([desk.plan("f"), desk.changes], [Plan([9]), 0])

    def test_errors_of_meetings(self):
        desk = Desk(c=Plan([1] * 70 + [-70]), d=Plan([1] * 72 + [-72]))
        self.fails(TooMany, [5183], desk, desk.run, ["let f = c", "meet 0 f ; 0 d"])

    def test_desks_that_run_by_turns(self):
        one, other = Desk(f=SLIDE), Desk(f=FAN)
        one.run(["let g = f", "let h = g"])
        other.run(["let g = f"])
        one.run(["undo"])
        self.same([one.names(), other.names(), one.plan("g"), other.plan("g")], [["f", "g"], ["f", "g"], SLIDE, FAN])


class Rows(DeskCase):

    def test_rows(self):
        desk = Desk(f=SLIDE, abcdefgh=FAN, flip=FLIP, up=Plan.shift(7), still=STILL)
        self.same(desk.rows(), [
            "abcdefgh     3       0 3",
            "f            2       0 2",
            "flip         2       0 1",
            "still        1       0 0",
            "up           1       7 -",
        ])

    def test_long_numbers(self):
        desk = Desk(a=with_period(2520), b=Plan.shift(-HUGE), c=Plan.shift(1234567), d=Plan.shift(-1234567),
                    e=Plan.shift(12345678), g=Plan([123456789] + [0] * 8))
        self.same(desk.rows(), [
            "a         2520       0 1",
            f"b            1{-HUGE} -",
            "c            1 1234567 -",
            "d            1-1234567 -",
            "e            112345678 -",
            "g            913717421 -",
        ])

    def test_rows_follow_the_changes(self):
        desk = Desk(f=SLIDE)
        desk.let("g", "[1]")
        self.same(desk.rows(), ["f            2       0 2", "g            1       1 -"])
        desk.drop("f")
        self.same(desk.rows(), ["g            1       1 -"])
        desk.undo()
        desk.undo()
        self.same(desk.rows(), ["f            2       0 2"])

    def test_queries_change_nothing(self):
        desk = Desk(f=SLIDE, g=FAN)
        desk.let("h", "f g")
        before = state(desk)
        for _ in range(2):
            desk.names(), desk.rows(), desk.plan("f"), "f" in desk, len(desk), desk.changes
            desk.ask("profile f"), desk.ask("meet 0 f ; 0 g"), desk.run(["at 0 f", "alike f ; g"])
            self.same(state(desk), before)


if __name__ == "__main__":
    unittest.main()
