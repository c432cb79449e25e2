"""The interface: each name under its heading, defined there, with its arguments."""

import importlib
import inspect
import unittest

INTERFACE = {
    "rows": ("ring(size, bells)", "said(signs, bells)", "sayings(signs, bells)"),
    "climbs": ("climb(size, bells, first, last)", "shows_climb(size, bells, first, last, value)"),
    "stairs": (
        "stairs(size)", "all_bells(stair)", "stair_count(size)", "bell_count(stair)", "row_count(stair)",
        "bells_of(stair)",
    ),
    "alike": (
        "same(size, one, other)", "shows_telling(size, one, other, value)", "shows_core(size, bells, value)",
        "telling(size, one, other)", "shortened(size, bells)", "needless(size, bells)", "core(size, bells)",
    ),
}


class Interface(unittest.TestCase):
    def test_each_function_stands_in_its_file_with_its_arguments(self):
        for module, lines in INTERFACE.items():
            found = importlib.import_module(f"bellcopies.{module}")
            for line in lines:
                with self.subTest(module=module, line=line):
                    name = line.partition("(")[0]
                    function = getattr(found, name)
                    self.assertEqual(function.__module__, f"bellcopies.{module}")
                    self.assertEqual(f"{name}{inspect.signature(function)}", line)
