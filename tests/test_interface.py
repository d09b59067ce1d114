import importlib
import inspect
import unittest

# Each function with the parameters that the document gives it; * before those that take any number.
FUNCTIONS = {
    "integers": {
        "is_integer": "(value)", "common_divisor": "(*numbers)", "common_multiple": "(*numbers)",
    },
    "ratios": {
        "is_ratio": "(value)", "ratio": "(numerator, denominator=1)", "ratio_sum": "(*ratios)",
        "ratio_product": "(*ratios)", "compare_ratios": "(left, right)", "sorted_ratios": "(ratios)",
    },
}


class Interface(unittest.TestCase):

    def test_functions_stand_in_their_files_with_their_parameters(self):
        for file, functions in FUNCTIONS.items():
            module = importlib.import_module("threeswaps." + file)
            for name, parameters in functions.items():
                with self.subTest(name):
                    function = getattr(module, name)
                    self.assertTrue(inspect.isfunction(function))
                    self.assertEqual(function.__module__, "threeswaps." + file)
                    self.assertEqual(function.__name__, name)
                    self.assertEqual(str(inspect.signature(function)), parameters)


if __name__ == "__main__":
    unittest.main()
