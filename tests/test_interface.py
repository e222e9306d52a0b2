import inspect
import unittest

from sawtrunk import (
    best, blocks, fitlooks, fitting, grades, parting, pictures, prices, sawing, shapes, weighs,
)

LISTED = (
    (shapes, (
        ("is_shape", ["thing"]), ("wood_in", ["shape", "box"]), ("tight", ["shape", "box"]),
        ("stretch", ["shape", "box", "way"]), ("round_shape", ["d"]), ("turned_shape", ["shape"]),
    )),
    (grades, (("touch", ["one", "other"]), ("grade_of", ["body", "flaws", "rules"]))),
    (blocks, (
        ("whole_block", ["shape"]), ("turned", ["block"]), ("cut", ["shape", "saw", "block", "thick"]),
        ("edged", ["shape", "layer", "up", "edge", "narrow"]),
    )),
    (sawing, (("sawn", ["trunk", "measures", "deeds"]),)),
    (pictures, (("picture", ["trunk", "measures", "deeds"]),)),
    (parting, (
        ("thick_of", ["board"]), ("breadth_of", ["board"]), ("long_of", ["board"]),
        ("ripped", ["board", "breadth", "flaws", "measures"]), ("crossed", ["board", "long", "flaws", "measures"]),
    )),
    (prices, (("worth_of", ["board", "prices"]),)),
    (best, (
        ("best", ["trunk", "measures", "prices", "thicks"]), ("weighing", ["trunk", "measures", "prices", "thicks"]),
    )),
    (weighs, (("weighs", ["trunk", "measures", "prices", "thicks", "worth", "thing"]),)),
    (fitting, (("fits", ["board", "order", "rules"]), ("most", ["orders", "boards", "rules"]))),
    (fitlooks, (("most_holds", ["orders", "boards", "rules", "thing"]),)),
)


class Interface(unittest.TestCase):
    def test_each_is_defined_in_its_file_with_its_arguments(self):
        for module, functions in LISTED:
            for name, arguments in functions:
                function = getattr(module, name)
                self.assertTrue(inspect.isfunction(function), name)
                self.assertEqual(function.__module__, module.__name__, name)
                self.assertEqual(list(inspect.signature(function).parameters), arguments, name)


if __name__ == "__main__":
    unittest.main()
