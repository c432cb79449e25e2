"""The examples of the interface, as the document gives them."""

import doctest
import unittest

EXAMPLES = {
    "rows": """
>>> from bellcopies.rows import ring, said, sayings
>>> [ring(3, (2, 3)), ring(3, (3, 2)), said((5, 6, 7), (3, 2)), sayings((1, 2), (2,))]
[(1, 1, 1), (1, 1, 2), (5, 5, 6), ((1, 2), (1, 1))]
""",
    "climbs": """
>>> from bellcopies.climbs import climb
>>> [climb(3, (2, 3), 1, 3), climb(3, (3, 2), 1, 3)]
[(0, 1), None]
""",
    "stairs": """
>>> from bellcopies.stairs import all_bells, bell_count, bells_of, row_count, stairs
>>> [stairs(2), all_bells((1, 1, 2, 2)), bells_of((1, 1, 2, 2)), row_count((1, 1, 2, 2)), bell_count((1, 1, 1, 2))]
[((1, 1), (1, 2)), ((3, 2, 4), (3, 4, 2)), (3, 2, 4), 2, 4]
""",
    "alike": """
>>> from bellcopies.alike import needless, same, shortened, telling
>>> [same(3, (2, 3, 2), (2, 3)), telling(3, (2, 3), (3, 2)), shortened(3, (2, 3, 2, 3)), needless(3, (2, 2))]
[True, 3, (2, 3), (0, 1)]
""",
}


class Examples(unittest.TestCase):
    def test_each_heading(self):
        for name, text in EXAMPLES.items():
            with self.subTest(module=name):
                example = doctest.DocTestParser().get_doctest(text, {}, name, None, 0)
                self.assertGreater(len(example.examples), 1)
                told = []
                result = doctest.DocTestRunner(verbose=False).run(example, out=told.append)
                self.assertEqual(result.failed, 0, "".join(told))
