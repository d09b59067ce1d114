import copy
import inspect
import unittest

from threeswaps import errors
from samples import HUGE, Thing, Wild

# As the document lists them: the class above, then each class with its parameters.
TREE = {
    "ThreeswapsError": (ValueError, {
        "InvalidInteger": ["value"], "InvalidRatio": ["value"], "InvalidTable": ["problem", "position", "earlier"],
        "InvalidPair": ["position"], "InvalidAddress": ["value"], "InvalidProfile": ["problem"],
        "InvalidFormula": ["position"], "InvalidValue": ["value"], "InvalidName": ["value"], "InvalidLine": ["value"],
    }),
    "AbsentError": (LookupError, {
        "NoTrack": ["key", "number"], "NoRenaming": ["found"], "NoRoot": ["key", "many"], "NoFactors": ["excess"],
        "UnknownName": ["name"], "NothingToUndo": [],
    }),
    "LimitError": (ArithmeticError, {"TooLong": ["multiple"], "TooMany": ["many"]}),
}
ROWS = [
    (getattr(errors, name), getattr(errors, base), python, names)
    for base, (python, below) in TREE.items() for name, names in below.items()
]
VALUES = [
    None, True, False, 0, 1, -HUGE, "", "text", b"data", [], [1, [2]], (), (1, 2), (True, 1), {}, {"a": [1]}, {1},
    Thing(), Thing, Wild(), ValueError("x"), len,
]


def made_of(names, first):
    """One value for each name, none of them the same."""
    return [first] + [object() for _ in names[1:]] if names else []


class Classes(unittest.TestCase):

    def test_bases(self):
        for base, (python, _) in TREE.items():
            with self.subTest(base):
                self.assertEqual(getattr(errors, base).__bases__, (python,))

    def test_each_class_is_directly_below_its_base_alone(self):
        for kind, base, _, _ in ROWS:
            with self.subTest(kind.__name__):
                self.assertEqual(kind.__bases__, (base,))

    def test_there_are_no_other_subclass_relations(self):
        kinds = [kind for kind, _, _, _ in ROWS]
        for kind, base, python, _ in ROWS:
            own = [other for other in kinds if issubclass(kind, other)]
            self.assertEqual(own, [kind])
            above = [other for other in (ValueError, LookupError, ArithmeticError) if issubclass(kind, other)]
            self.assertEqual(above, [python])
            for other in TREE:
                self.assertEqual(issubclass(kind, getattr(errors, other)), getattr(errors, other) is base)

    def test_the_file_defines_just_these_classes(self):
        found = {name for name, value in vars(errors).items() if inspect.isclass(value)}
        self.assertEqual(found, set(TREE) | {kind.__name__ for kind, _, _, _ in ROWS})
        for name in found:
            self.assertEqual(getattr(errors, name).__module__, "threeswaps.errors")

    def test_parameters_have_the_names_of_the_document(self):
        for kind, _, _, names in ROWS:
            with self.subTest(kind.__name__):
                found = inspect.signature(kind).parameters.values()
                self.assertEqual([name.name for name in found], names)
                for name in found:
                    self.assertEqual((name.kind, name.default), (name.POSITIONAL_OR_KEYWORD, name.empty))


class Attributes(unittest.TestCase):

    def check(self, error, names, values):
        self.assertEqual(sorted(vars(error)), sorted(names))
        for name, value in zip(names, values):
            self.assertIs(getattr(error, name), value)

    def test_made_by_position(self):
        for kind, _, _, names in ROWS:
            for first in VALUES:
                with self.subTest(kind.__name__):
                    values = made_of(names, first)
                    self.check(kind(*values), names, values)

    def test_made_by_the_names_of_the_parameters(self):
        for kind, _, _, names in ROWS:
            for first in VALUES:
                with self.subTest(kind.__name__):
                    values = made_of(names, first)
                    self.check(kind(**dict(zip(names, values))), names, values)
                    backward = dict(list(zip(names, values))[::-1])
                    self.check(kind(**backward), names, values)

    def test_made_by_position_and_by_name(self):
        error = errors.InvalidTable("meeting", position=1, earlier=0)
        self.assertEqual((error.problem, error.position, error.earlier), ("meeting", 1, 0))
        error = errors.NoTrack((1, 2), number=-1)
        self.assertEqual((error.key, error.number), ((1, 2), -1))

    def test_each_parameter_holds_any_value(self):
        for kind, _, _, names in ROWS:
            for at in range(len(names)):
                for value in VALUES:
                    values = [None] * len(names)
                    values[at] = value
                    self.check(kind(*values), names, values)

    def test_kinds_are_kept(self):
        for first, second in ((True, 1), (False, 0), ((True, 1), (1, 1)), ([1], (1,)), ("1", 1)):
            for kind, _, _, names in ROWS:
                if names:
                    held = getattr(kind(*made_of(names, first)), names[0])
                    self.assertIs(held, first)
                    self.assertIsNot(held, second)

    def test_two_errors_of_one_class_keep_what_each_was_made_of(self):
        for kind, _, _, names in ROWS:
            one, two = made_of(names, object()), made_of(names, object())
            first, second = kind(*one), kind(**dict(zip(names, two)))
            self.check(first, names, one)
            self.check(second, names, two)
            self.assertIsNot(first, second)

    def test_a_list_is_held_and_not_copied(self):
        value = [1, 2]
        error = errors.InvalidRatio(value)
        value.append(3)
        self.assertEqual(error.value, [1, 2, 3])

    def test_a_wrong_number_of_arguments(self):
        for kind, _, _, names in ROWS:
            with self.subTest(kind.__name__):
                with self.assertRaises(TypeError):
                    kind(*[1] * (len(names) + 1))
                with self.assertRaises(TypeError):
                    kind(**dict.fromkeys(names + ["other"], 1))
                if names:
                    with self.assertRaises(TypeError):
                        kind(*[1] * (len(names) - 1))

    def test_a_copy_holds_the_same(self):
        for kind, _, _, names in ROWS:
            values = made_of(names, object())
            self.check(copy.copy(kind(*values)), names, values)


class Catching(unittest.TestCase):

    def test_each_error_is_caught_as_its_own_class_and_those_above(self):
        for kind, base, python, names in ROWS:
            for caught in (kind, base, python, Exception):
                with self.subTest(kind.__name__, caught=caught.__name__):
                    error = kind(*made_of(names, "x"))
                    with self.assertRaises(caught) as found:
                        raise error
                    self.assertIs(found.exception, error)

    def test_no_error_is_caught_as_another_class(self):
        for kind, base, python, names in ROWS:
            right = (kind, base, python)
            others = [other for other, _, _, _ in ROWS] + [getattr(errors, name) for name in TREE]
            others += [ValueError, LookupError, ArithmeticError, KeyError, IndexError, TypeError, OverflowError]
            others = tuple(other for other in others if other not in right)
            with self.subTest(kind.__name__):
                try:
                    raise kind(*made_of(names, "x"))
                except others:
                    self.fail("caught as another class")
                except right:
                    pass

    def test_the_upper_classes_are_errors_of_their_own(self):
        for base, (python, _) in TREE.items():
            with self.assertRaises(python) as found:
                raise getattr(errors, base)("told")
            self.assertEqual(str(found.exception), "told")


if __name__ == "__main__":
    unittest.main()
