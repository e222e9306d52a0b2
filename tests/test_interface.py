import inspect
import unittest

from sawtrunk import (
    best, blocks, desk, fitlooks, fitting, grades, mill, parting, pictures, prices, sawing, shapes, stacks, texts,
    weighs,
)

LISTED = (
    (shapes, (
        ("is_shape", ["thing"]), ("wood_in", ["shape", "box"]), ("tight", ["shape", "box"]),
        ("stretch", ["shape", "box", "way"]), ("round_shape", ["d"]), ("turned_shape", ["shape"]),
    )),
    (grades, (("touch", ["one", "other"]), ("grade_of", ["body", "flaws", "rules"]))),
    (blocks, (
        ("whole_block", ["shape"]), ("turned", ["block"]), ("cut", ["shape", "saw", "block", "thick"]),
        ("edged", ["shape", "layer", "up", "edge", "narrow"]),
    )),
    (sawing, (("sawn", ["trunk", "measures", "deeds"]),)),
    (pictures, (("picture", ["trunk", "measures", "deeds"]),)),
    (parting, (
        ("thick_of", ["board"]), ("breadth_of", ["board"]), ("long_of", ["board"]),
        ("ripped", ["board", "breadth", "flaws", "measures"]), ("crossed", ["board", "long", "flaws", "measures"]),
    )),
    (prices, (("worth_of", ["board", "prices"]),)),
    (best, (
        ("best", ["trunk", "measures", "prices", "thicks"]), ("weighing", ["trunk", "measures", "prices", "thicks"]),
    )),
    (weighs, (("weighs", ["trunk", "measures", "prices", "thicks", "worth", "thing"]),)),
    (fitting, (("fits", ["board", "order", "rules"]), ("most", ["orders", "boards", "rules"]))),
    (fitlooks, (("most_holds", ["orders", "boards", "rules", "thing"]),)),
    (texts, (("written", ["mill"]), ("read", ["text"]))),
)
CLASSES = (
    (stacks.Stacks, [], (
        ("put", ["stack", "name", "breadth"]), ("off", ["name"]), ("pass_nights", ["many"]), ("nights", ["name"]),
        ("place", ["name"]), ("piles", []),
    )),
    (mill.Mill, ["measures"], (
        ("enter", ["day", "deed"]), ("out", ["entry"]), ("entries", []), ("boards", ["day"]), ("given", ["day"]),
        ("stacks", ["day"]), ("orders", ["day"]), ("block", ["day", "name"]), ("wood", ["day", "name"]),
        ("could", ["day"]),
    )),
    (desk.Desk, ["measures"], (("say", ["row"]),)),
)
MODULES = {"Stacks": stacks, "Mill": mill, "Desk": desk}


class Interface(unittest.TestCase):
    def test_each_is_defined_in_its_file_with_its_arguments(self):
        for module, functions in LISTED:
            for name, arguments in functions:
                function = getattr(module, name)
                self.assertTrue(inspect.isfunction(function), name)
                self.assertEqual(function.__module__, module.__name__, name)
                self.assertEqual(list(inspect.signature(function).parameters), arguments, name)

    def test_each_class_is_defined_in_its_file_with_its_methods(self):
        for kind, arguments, methods in CLASSES:
            self.assertEqual(kind.__module__, MODULES[kind.__name__].__name__)
            self.assertEqual(list(inspect.signature(kind).parameters), arguments, kind)
            for name, its_arguments in methods:
                # In the class itself, not in one that it stands under.
                self.assertIn(name, vars(kind))
                told = list(inspect.signature(vars(kind)[name]).parameters)
                self.assertEqual(told, ["self"] + its_arguments, name)


if __name__ == "__main__":
    unittest.main()
