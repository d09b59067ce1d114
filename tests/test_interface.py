import importlib
import inspect
import unittest

# Each function with the parameters that the document gives it; * before those that take any number.
FUNCTIONS = {
    "integers": {
        "is_integer": "(value)", "common_divisor": "(*numbers)", "common_multiple": "(*numbers)",
    },
    "ratios": {
        "is_ratio": "(value)", "ratio": "(numerator, denominator=1)", "ratio_sum": "(*ratios)",
        "ratio_product": "(*ratios)", "compare_ratios": "(left, right)", "sorted_ratios": "(ratios)",
    },
    "plans": {"product": "(*plans)"},
    "cuts": {
        "up": "(plan, cut)", "down": "(plan, cut)", "carried_up": "(plan, cut, most=100)",
        "carried_down": "(plan, cut, most=100)", "delay": "(plan)", "delayed": "(plan)", "holds": "(plan)",
    },
    "streams": {"deliveries": "(plan, items, *, gap=None)"},
    "profiles": {"profile_sum": "(lines, rounds)"},
    "renamings": {"alike": "(one, other)", "renaming_fault": "(one, other, by)", "shortest": "(plan)"},
    "roots": {
        "root_bound": "(plan)", "is_root": "(plan, k, by)", "order": "(plan)", "exponent": "(one, other)",
    },
    "swaps": {
        "fewest_swaps": "(plan)", "unpaired": "(plan)", "swap_factors": "(plan)", "fewest_closed": "(plan)",
        "closed_factors": "(plan)", "is_factoring": "(plan, factors, *, closed=False)",
    },
    "mirrors": {"moves_product": "(*moves)", "move_power": "(move, n)", "mirrored": "(plan)"},
    "turns": {"mirror_factors": "(plan)", "turn_factors": "(move)"},
    "meetings": {"meetings": "(one, x, other, y)", "first_meeting": "(one, x, other, y)"},
    "formulas": {
        "is_formula": "(value)", "formula_text": "(formula)", "names_in": "(formula)", "read_formula": "(text)",
        "evaluate": "(formula, plans)",
    },
}
GENERATORS = {"meetings": {"meetings_in": "(one, x, other, y, first, last)"}}

# Each class: its base class, its own parameters, class values, class methods, properties, methods, generators.
CLASSES = {
    "plans": {
        "Move": {"base": object, "values": {"MAX_PERIOD": 2520}},
        "Plan": {
            "base": "Move", "parameters": "(offsets)", "values": {"SIGN": 1},
            "class methods": {"identity": "()", "shift": "(n)", "swapping": "(period, *pairs)"},
            "properties": ["period", "flow"],
            "methods": {
                "offsets": "(self)", "at": "(self, x)", "__call__": "(self, x)", "back": "(self, x)",
                "inverse": "(self)", "then": "(self, other)", "power": "(self, n)", "renamed": "(self, by)",
                "__mul__": "(self, other)", "__eq__": "(self, other)", "__len__": "(self)", "__str__": "(self)",
                "__repr__": "(self)",
            },
        },
    },
    "tracks": {
        "Tracks": {
            "base": object, "parameters": "(plan)", "properties": ["up", "down"],
            "methods": {
                "cycles": "(self)", "address": "(self, x)", "place": "(self, address)", "after": "(self, x, n)",
                "steps": "(self, x, y)", "on_one_track": "(self, x, y)", "speed": "(self, x)", "length": "(self, x)",
                "rank": "(self, x)", "lines": "(self, speed)", "base": "(self, speed, rank)",
                "round_base": "(self, length, rank)", "count_in": "(self, x, first, last)",
            },
            "generators": {"walk": "(self, x, n)", "places_in": "(self, x, first, last)"},
        },
    },
    "streams": {
        "Stream": {
            "base": object, "parameters": "(plan, *, gap=None)", "properties": ["moment", "waiting"],
            "methods": {"push": "(self, item)"}, "generators": {"rest": "(self)"},
        },
    },
    "profiles": {
        "Profile": {
            "base": object, "parameters": "(lines, rounds)",
            "class methods": {"of": "(plan)", "identity": "()"},
            "properties": ["flow", "least_period"],
            "methods": {
                "lines": "(self)", "rounds": "(self)", "speeds": "(self)", "lengths": "(self)",
                "lines_of": "(self, speed)", "density": "(self, length)", "power": "(self, n)", "opposite": "(self)",
                "plan": "(self)", "first_difference": "(self, other)", "__eq__": "(self, other)", "__str__": "(self)",
            },
        },
    },
    "rules": {
        "Rule": {
            "base": object, "properties": ["period"],
            "methods": {"at": "(self, x)", "__call__": "(self, x)", "back": "(self, x)"},
        },
        "PlainRule": {"base": "Rule", "methods": {"plan": "(self)"}},
    },
    "renamings": {"Renaming": {"base": "PlainRule", "parameters": "(one, other)"}},
    "roots": {"Root": {"base": "PlainRule", "parameters": "(plan, k)"}},
    "swaps": {
        "Swap": {"base": "PlainRule"},
        "ClosedRule": {"base": "PlainRule", "methods": {"length_at": "(self, x)"}},
    },
    "mirrors": {
        "Mirror": {
            "base": "Move", "parameters": "(offsets)", "values": {"SIGN": -1},
            "class methods": {"around": "(n)"}, "properties": ["period"],
            "methods": {
                "offsets": "(self)", "at": "(self, x)", "__call__": "(self, x)", "back": "(self, x)",
                "inverse": "(self)", "__eq__": "(self, other)", "__len__": "(self)", "__str__": "(self)",
                "__repr__": "(self)",
            },
        },
    },
    "turns": {
        "MirrorRule": {"base": "Rule", "methods": {"mirror": "(self)"}},
        "MirrorRenaming": {"base": "MirrorRule", "parameters": "(one, other)"},
    },
    "desk": {
        "Desk": {
            "base": object, "parameters": "(**plans)", "values": {"MAX_CHANGES": 20}, "properties": ["changes"],
            "methods": {
                "names": "(self)", "plan": "(self, name)", "__len__": "(self)", "__contains__": "(self, x)",
                "let": "(self, name, text)", "drop": "(self, name)", "undo": "(self)", "ask": "(self, line)",
                "run": "(self, lines)", "rows": "(self)",
            },
        },
    },
}
ROWS = [(file, name, told) for file, classes in CLASSES.items() for name, told in classes.items()]


def module(file):
    """The module of a file of the package."""
    return importlib.import_module("threeswaps." + file)


class Functions(unittest.TestCase):

    def test_functions_stand_in_their_files_with_their_parameters(self):
        for told in (FUNCTIONS, GENERATORS):
            for file, functions in told.items():
                for name, parameters in functions.items():
                    with self.subTest(name):
                        function = getattr(module(file), name)
                        self.assertTrue(inspect.isfunction(function))
                        self.assertEqual(inspect.isgeneratorfunction(function), told is GENERATORS)
                        self.assertEqual(function.__module__, "threeswaps." + file)
                        self.assertEqual(function.__name__, name)
                        self.assertEqual(str(inspect.signature(function)), parameters)


class Classes(unittest.TestCase):

    def test_classes_stand_in_their_files(self):
        for file, name, told in ROWS:
            with self.subTest(name):
                kind = getattr(module(file), name)
                self.assertTrue(inspect.isclass(kind))
                self.assertEqual(kind.__module__, "threeswaps." + file)
                base = told["base"]
                if isinstance(base, str):
                    self.assertEqual([above.__name__ for above in kind.__bases__], [base])
                else:
                    self.assertEqual(kind.__bases__, (base,))
                if "parameters" in told:
                    self.assertEqual(str(inspect.signature(kind)), told["parameters"])

    def test_what_is_listed_stands_in_the_class_itself(self):
        for file, name, told in ROWS:
            own = vars(getattr(module(file), name))
            with self.subTest(name):
                for word, value in told.get("values", {}).items():
                    self.assertEqual((own[word], own[word].__class__), (value, value.__class__))
                for word in told.get("properties", ()):
                    self.assertIsInstance(own[word], property)
                for word, parameters in told.get("class methods", {}).items():
                    self.assertIsInstance(own[word], classmethod)
                    self.assertEqual(str(inspect.signature(getattr(getattr(module(file), name), word))), parameters)
                methods = {**told.get("methods", {}), **told.get("generators", {})}
                for word, parameters in methods.items():
                    self.assertTrue(inspect.isfunction(own[word]))
                    self.assertEqual(str(inspect.signature(own[word])), parameters)
                    self.assertEqual(inspect.isgeneratorfunction(own[word]), word in told.get("generators", {}))


if __name__ == "__main__":
    unittest.main()
