import itertools
import unittest

import texts
from threeswaps.errors import InvalidFormula, InvalidTable, InvalidValue, TooLong, UnknownName
from threeswaps.formulas import evaluate, formula_text, is_formula, names_in, read_formula
from threeswaps.plans import Plan, product
from cases import Case
from samples import HUGE, NO_INTEGERS, Count, Sly, Thing, Wild

F, G, H = ("name", "f"), ("name", "g"), ("name", "h")
STILL, PAIR = ("table", (0,)), ("table", (1, -1))
FG = ("product", (F, G))


def nested(levels, inner=FG):
    """A formula with so many pairs of brackets within each other."""
    for _ in range(levels):
        inner = ("product", (inner, F))
    return inner


# Formulas and their texts.
TEXTS = [
    (F, "f"), (("name", "abcdefgh"), "abcdefgh"), (("name", "zz"), "zz"), (STILL, "[0]"), (PAIR, "[1,-1]"),
    (("table", (-12, 0, 7)), "[-12,0,7]"), (("table", (10 ** 30 - 1, 1 - 10 ** 30)), f"[{'9' * 30},-{'9' * 30}]"),
    (("table", (0,) * 60), "[" + "0," * 59 + "0]"), (("table", (1, 0)), "[1,0]"),
    (("power", F, 2), "f^2"), (("power", F, 0), "f^0"), (("power", F, -10), "f^-10"), (("power", PAIR, 3), "[1,-1]^3"),
    (("power", F, 10 ** 60 - 1), "f^" + "9" * 60), (("power", F, 1 - 10 ** 60), "f^-" + "9" * 60),
    (("power", ("power", F, 2), 3), "(f^2)^3"), (("power", ("power", ("power", F, 2), -3), 4), "((f^2)^-3)^4"),
    (("power", FG, 2), "(f g)^2"), (FG, "f g"), (("product", (F, F, F)), "f f f"),
    (("product", (F,) * 12), "f" + " f" * 11),
    (("product", (FG, H)), "(f g) h"), (("product", (H, FG)), "h (f g)"), (("product", (FG, FG)), "(f g) (f g)"),
    (("product", (("power", F, 2), G)), "f^2 g"), (("product", (("power", FG, -1), G)), "(f g)^-1 g"),
    (("product", (F, ("power", ("power", G, 2), 3), STILL)), "f (g^2)^3 [0]"),
    (("product", (F, ("power", ("product", (G, F)), -2), STILL)), "f (g f)^-2 [0]"),
    (("power", ("product", (FG, H)), 5), "((f g) h)^5"), (("product", (("product", (FG, H)), F)), "((f g) h) f"),
    (nested(6), "((((((f g) f) f) f) f) f) f"), (("power", nested(5), 7), "((((((f g) f) f) f) f) f)^7"),
    (nested(6, F), "(((((f f) f) f) f) f) f"),
    (("product", (("product", (F,) * 12),) * 12), " ".join(["(f" + " f" * 11 + ")"] * 12)),
]

NO_FORMULAS = NO_INTEGERS + [
    0, 1, "f", "name", ("name",), ("f",), ("sum", (F, G)), ("f", (F, G)),
    ("products", (F, G)), ("tables", (0,)), ("powers", F, 2), ("table", (F, G)), ("product", (0, 1)), ("name", "f", "g"), ["name", "f"], ("name", ""), ("name", "abcdefghi"),
    ("name", "F"), ("name", "a1"), ("name", "a b"), ("name", "a_"), ("name", b"f"), ("name", None), ("name", ("f",)),
    ("name", 1), ("name", ["f"]), ("Name", "f"), ("names", "f"), (b"name", "f"), ("", "f"), (None, "f"), (1, "f"),
    ("table", ()), ("table", [0]), ("table", 0), ("table", "0"), ("table", None), ("table",), ("table", (0,), 1),
    ("table", (0,) * 61), ("table", (10 ** 30,)), ("table", (-10 ** 30,)), ("table", (0, 10 ** 30, 0)),
    ("table", (True,)), ("table", (0, False)), ("table", ("0",)), ("table", (0, None)), ("table", ((0,),)),
    ("power", F), ("power", F, 2, 3), ("power", 2, F), ("power", F, True), ("power", F, False), ("power", F, None),
    ("power", F, "2"), ("power", F, (2,)), ("power", F, 10 ** 60), ("power", F, -10 ** 60), ("power", "f", 2),
    ("power", ("name", "F"), 2), ("power", ["name", "f"], 2), ("power", None, 2), ("power", ("power", F, True), 2),
    ("product", ()), ("product", (F,)), ("product", (F,) * 13), ("product", [F, G]), ("product", F, G),
    ("product", (F, "g")), ("product", (F, ["name", "g"])), ("product", (F, None)), ("product", (F, ("name", "G"))),
    ("product", (("product", (F,)), G)), ("product", (F, ("product", [F, G]))), ("product",), ("product", "fg"),
    nested(7), ("power", nested(6), 2), ("product", (F, nested(6))), ("power", ("power", nested(5), 2), 2),
    ("name", Thing()), ("table", (Sly(),)), (Sly(), "f"), (Wild(), "f"), ("power", F, Wild()), ("power", Wild(), 2),
    ("product", (Wild(), F)), ("product", Wild()), ("table", Wild()), ("name", Wild()), (), (("name", "f"),), {1: 2},
]


class Formulas(Case):

    def test_formulas(self):
        for formula, _ in TEXTS:
            self.assertIs(is_formula(formula), True)
            self.assertIs(is_formula(value=formula), True)
        self.assertIs(is_formula(("power", F, Count(2))), True)
        self.assertIs(is_formula(("table", (Count(2),))), True)

    def test_no_formulas(self):
        for value in NO_FORMULAS:
            self.assertIs(is_formula(value), False)
            self.told_itself(InvalidValue, value, formula_text, value)
            self.told_itself(InvalidValue, value, formula_text, formula=value)
            self.told_itself(InvalidValue, value, names_in, value)
            self.told_itself(InvalidValue, value, names_in, formula=value)
            self.told_itself(InvalidValue, value, evaluate, value, {})
            self.told_itself(InvalidValue, value, evaluate, plans={"f": Plan([0])}, formula=value)

    def test_names(self):
        for many in range(10):
            for letter in "amz":
                self.assertIs(is_formula(("name", letter * many)), 1 <= many <= 8)
        for sign in map(chr, range(32, 127)):
            for name in (sign, "a" + sign, sign + "b", "aaa" + sign + "bbb"):
                self.assertIs(is_formula(("name", name)), "a" <= sign <= "z")

    def test_sizes(self):
        for many in range(63):
            self.assertIs(is_formula(("table", (5,) * many)), 1 <= many <= 60)
            self.assertIs(is_formula(("table", (10 ** many,))), many < 30)
            self.assertIs(is_formula(("table", (0, -10 ** many))), many < 30)
            self.assertIs(is_formula(("power", F, 10 ** many)), many < 60)
            self.assertIs(is_formula(("power", F, -10 ** many)), many < 60)
        for many in range(16):
            self.assertIs(is_formula(("product", (F,) * many)), 2 <= many <= 12)
            self.assertIs(is_formula(("power", ("product", (F,) * many), 2)), 2 <= many <= 12)

    def test_brackets(self):
        for levels in range(29):
            power = F
            for _ in range(levels):
                power = ("power", power, 2)
            self.assertIs(is_formula(power), levels <= 7)
            self.assertIs(is_formula(nested(levels)), levels <= 6)
            self.assertIs(is_formula(("product", (F, nested(levels), F))), levels <= 5)
            self.assertIs(is_formula(("product", (power, power))), levels <= 7)
        mixed = ("power", nested(2, ("power", nested(2), 2)), 2)
        self.same([is_formula(mixed), formula_text(mixed)], [True, "((((((f g) f) f)^2 f) f)^2"[1:]])


class Texts(Case):

    def test_texts(self):
        for formula, text in TEXTS:
            self.same(formula_text(formula), text)
            self.same(formula_text(formula=formula), text)

    def test_reading(self):
        for formula, text in TEXTS:
            self.same(read_formula(text), formula)
            self.same(read_formula(text=text), formula)

    def test_texts_belong_to_formulas_one_to_one(self):
        parts = [F, G, STILL, PAIR, ("power", F, 2), ("power", PAIR, -1), FG, ("product", (G, F)), ("power", FG, 0)]
        made = parts + [("power", part, n) for part in parts for n in (0, 1, -7)]
        made += [("product", pair) for pair in itertools.product(parts, repeat=2)]
        made += [("product", three) for three in itertools.product(parts[::2], repeat=3)]
        made += [("power", ("product", pair), 3) for pair in itertools.product(parts[::2], repeat=2)]
        made = list(dict.fromkeys(made))
        found = [formula_text(formula) for formula in made]
        self.assertEqual(len(set(found)), len(made))
        for formula, text in zip(made, found):
            self.same(read_formula(text), formula)
            self.assertIsNone(texts.fault(text))

    def test_all_short_texts(self):
        seen = []
        for many in range(6):
            for signs in itertools.product("f0^( )", repeat=many):
                seen.append(self.check("".join(signs)))
        for many in range(7):
            for signs in itertools.product("[1,-]", repeat=many):
                seen.append(self.check("[" + "".join(signs)))
        self.assertGreater(seen.count(None), 30)

    def check(self, text):
        """Check what reading a text does; return the position that is told, None if it is read."""
        position = texts.fault(text)
        if position is None:
            formula = read_formula(text)
            self.assertIs(is_formula(formula), True)
            self.same(formula_text(formula), text)
        else:
            self.raises(InvalidFormula, [position], read_formula, text)
        return position

    def test_positions_of_the_document(self):
        for text, position in (("(f g)", 6), ("(f)", 3), ("(f^2) g", 6), ("f^2^3", 4), ("f  g", 3), ("f ", 3),
                               ("[01]", 3), ("[-0]", 3), ("[1,]", 4), ("f^-0", 4), ("[1", 3), ("", 1)):
            self.raises(InvalidFormula, [position], read_formula, text)
            self.same(self.check(text), position)

    def test_positions_of_the_bounds(self):
        for text, position in (
                ("[" + "0," * 60 + "0]", 121), ("[" + "0," * 60, 121), ("[" + "0," * 59, 120),
                ("[" + "1" * 31 + "]", 32), ("[-" + "1" * 31 + "]", 33), ("[1," + "1" * 31, 34), ("[" + "1" * 30, 32),
                ("f^" + "2" * 61, 63), ("f^-" + "2" * 61, 64), ("f^" + "2" * 60 + "^", 63),
                ("f " * 12, 24), ("f " * 12 + "f", 24), ("f " * 11, 23), ("(" + "f " * 12 + "f)", 25),
                ("abcdefghi", 9), ("f abcdefghi", 11), ("abcdefghijk", 9), ("(abcdefghi", 10),
                ("(((((((f", 7), ("((((((f", 8), ("(" * 30, 7), ("f ((((((((", 9), ("(f (f (f (f (f (f (f", 19),
                ("((((((f g)^2)^2)^2)^2)^2)^2)^2", 28), ("((((((f g)^2)^2)^2)^2)^2)^2", None)):
            if position is None:
                self.assertIs(is_formula(read_formula(text)), True)
            else:
                self.raises(InvalidFormula, [position], read_formula, text)

    def test_other_positions(self):
        for text, position in (
                (" f", 1), ("F", 1), ("0", 1), ("^2", 1), (")", 1), ("-1", 1), ("]", 1), (",", 1), ("()", 2),
                ("[]", 2), ("f)", 2), ("f]", 2), ("f(g)", 2), ("f^", 3), ("f^-", 4), ("f^g", 3), ("f^2g", 4),
                ("f^02", 4), ("f^+2", 3), ("f^ 2", 3), ("[ 1]", 2), ("[1 ]", 3), ("[1, 2]", 4), ("[--1]", 3),
                ("[1-]", 3), ("[1][2]", 4), ("[1]f", 4), ("(f g", 5), ("(f g)) h", 6), ("((f g))", 7),
                ("((f g) h)", 10), ("(f^2)", 6), ("((f^2)^3)", 10), ("(f g)^2)", 8), ("(f g)h", 6), ("([1])", 5),
                ("f g ", 5), ("f ^2", 3), ("f;", 2), ("f1", 2), ("(f g) (h)", 9), ("f g)", 4)):
            self.raises(InvalidFormula, [position], read_formula, text)
            self.same(self.check(text), position)

    def test_texts_that_are_changed_at_one_place(self):
        seen = set()
        for text in ("f", "gg f", "[1,-10]", "f^-20", "[0]^1 f", "(f g)^2", "(f^2)^3", "a (b c) [4]", "(f (g^2)^0) h",
                     "((a b) c)^5", "f (g f)^-2 [0]"):
            for at in range(len(text) + 1):
                self.check(text[:at])
                for sign in map(chr, range(32, 127)):
                    seen.add(self.check(text[:at] + sign + text[at:]))
                    seen.add(self.check(text[:at] + sign + text[at + 1:]))
                seen.add(self.check(text[:at] + text[at + 1:]))
        self.assertTrue(set(range(1, 15)) <= seen and None in seen)

    def test_long_texts_that_are_changed_at_one_place(self):
        texts_at_the_bounds = ["f" + " f" * 11, "(f" + " f" * 11 + ") f", "f" + " f" * 9 + " (f^2)^3", "abcdefgh f",
                               "[" + "0," * 59 + "0]", "[-" + "9" * 30 + ",1]^3", "f^-" + "9" * 60]
        for text in texts_at_the_bounds:
            for at in [*range(len(text) + 1)][-40:]:
                self.check(text[:at])
                for sign in "f0,-[]^() ":
                    self.check(text[:at] + sign + text[at:])
                    self.check(text[:at] + sign + text[at + 1:])
        for text in ("((((((f g) f) f) f) f) f) f", "((((((f^2)^2)^2)^2)^2)^2)^2", "(f (f (f (f (f (f f)))))) f"):
            for at in range(0, len(text) + 1, 2):
                for sign in "f^() ":
                    self.check(text[:at] + sign + text[at:])

    def test_no_strings(self):
        for value in [value for value in NO_INTEGERS if not isinstance(value, str)] + [F, ("f",), ["f"], 1, 0, b"f"]:
            self.raises(InvalidFormula, [0], read_formula, value)
            self.raises(InvalidFormula, [0], read_formula, text=value)


class Names(Case):

    def test_names_in_their_sequence(self):
        for text, names in (("f", ["f"]), ("[0]", []), ("f g", ["f", "g"]), ("g f g", ["g", "f"]), ("[1]^2", []),
                            ("(b a)^2 c (a d) b", ["b", "a", "c", "d"]), ("z [0] y", ["z", "y"]),
                            ("((x^2)^3)^4", ["x"]), ("f ff fff f", ["f", "ff", "fff"])):
            self.same(names_in(read_formula(text)), names)
            self.same(names_in(formula=read_formula(text)), names)

    def test_the_list_is_new(self):
        names_in(FG).clear()
        self.same(names_in(FG), ["f", "g"])


class Values(Case):

    PLANS = {"f": Plan([2, -2]), "g": Plan([1, -1]), "fan": Plan([3, 1, -4]), "up": Plan([HUGE])}

    def value(self, text):
        found = evaluate(read_formula(text), self.PLANS)
        self.assertIs(found.__class__, Plan)
        self.assertEqual(evaluate(plans=self.PLANS, formula=read_formula(text)), found)
        return found

    def test_values(self):
        f, g, fan, up = [self.PLANS[name] for name in ("f", "g", "fan", "up")]
        for text, plan in (("f", f), ("[1,-1]", g), ("[0]", Plan([0])), ("f^3", f.power(3)), ("f^0", Plan([0])),
                           ("fan^-1", fan.inverse()), ("f g", f * g), ("g f", g * f), ("f g fan", product(f, g, fan)),
                           ("(f g)^-2", (f * g).power(-2)), ("(f^2)^3", f.power(6)),
                           ("f (g f)^-2 [0]", f * (g * f).power(-2)),
                           ("(f fan) up", f * fan * up), ("[3,1,-4]^5", fan.power(5)), ("up^" + "7" * 60, None)):
            if plan is not None:
                self.assertEqual(self.value(text), plan)
        self.same(self.value("up^" + "7" * 60), Plan([HUGE * int("7" * 60)]))
        self.same(self.value("f (g f)^-2 [0]"), Plan([2, -2]))

    def test_the_first_factor_is_done_first(self):
        self.same([self.value("f [1]"), self.value("[1] f")], [Plan([3, -1]), Plan([-1, 3])])

    def fails(self, error, told, text, plans):
        formula = read_formula(text)
        self.raises(error, told, evaluate, formula, plans)
        self.raises(error, told, evaluate, plans=plans, formula=formula)

    def test_unknown_names(self):
        for text, name in (("h", "h"), ("f h", "h"), ("h f", "h"), ("(f b) a", "b"), ("a b", "a"), ("[0,1] h", "h"),
                           ("[0,1] (f c)^2 a", "c"), ("((x^2)^3 f)^4 y", "x"), ("ff f", "ff")):
            self.fails(UnknownName, [name], text, self.PLANS)
        self.fails(UnknownName, ["f"], "f", {})
        self.fails(UnknownName, ["g"], "g f", {"f": Plan([0])})

    def test_tables_that_are_none(self):
        self.fails(InvalidTable, ["meeting", 1, 0], "[1,0]", {})
        self.fails(InvalidTable, ["meeting", 1, 0], "f [1,0] [0,0,-1]", self.PLANS)
        self.fails(InvalidTable, ["meeting", 2, 1], "[0,0,-1] [1,0]", {})
        self.fails(InvalidTable, ["meeting", 2, 1], "([0] [0,0,-1])^0", {})
        self.fails(InvalidTable, ["meeting", 1, 0], "[1,0]^0", {})

    def test_too_long(self):
        plans = {name: Plan([1, -1] + [0] * (period - 2)) for name, period in
                 (("a", 2520), ("b", 11), ("c", 13), ("d", 47), ("e", 61), ("f", 1300))}
        self.fails(TooLong, [27720], "a b", plans)
        self.fails(TooLong, [27720], "(a b)^0", plans)
        self.fails(TooLong, [27720], "a a b b", plans)
        self.fails(TooLong, [47 * 61], "(d e) (a b)", plans)
        self.fails(TooLong, [27720], "(a b) (d e)", plans)
        self.fails(TooLong, [27720 * 13], "a (b c)", plans)
        self.fails(TooLong, [27720], "a (b c)^0 b", plans)
        self.fails(TooLong, [2520 * 65], "(b b^-1) a f", plans)

    def test_which_error_is_due(self):
        plans = {"a": Plan([1, -1] + [0] * 2518), "b": Plan([1, -1] + [0] * 9)}
        self.fails(TooLong, [27720], "(a b) [1,0]", plans)
        self.fails(InvalidTable, ["meeting", 1, 0], "[1,0] (a b)", plans)
        self.fails(InvalidTable, ["meeting", 1, 0], "a [1,0] b", plans)
        self.fails(InvalidTable, ["meeting", 1, 0], "a b [1,0]", plans)
        self.fails(UnknownName, ["c"], "(a b) [1,0] c", plans)
        self.fails(UnknownName, ["c"], "[1,0] (a b) c d", plans)
        self.raises(InvalidValue, [("product", (F,))], evaluate, ("product", (F,)), {})

    def test_the_dict_stays(self):
        plans = {"f": Plan([2, -2])}
        evaluate(read_formula("f f^2"), plans)
        self.raises(UnknownName, ["g"], evaluate, G, plans)
        self.assertEqual(plans, {"f": Plan([2, -2])})


if __name__ == "__main__":
    unittest.main()
