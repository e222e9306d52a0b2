import inspect
import unittest

from sawtrunk import errors
from sawtrunk.errors import (
    Beneath, Hindered, Misfit, NoBlock, NoBoard, NoDay, NoDeed, NoEntry, NoGrade, NoLine, NoOrder, NoRow,
    NotStacked, NoTrunk, Overhang, SawError, Stacked, Taken, TooBroad, TooLong, TooThick,
)

WITH_FIELDS = (
    (TooThick, ("deep",)), (TooBroad, ("breadth",)), (TooLong, ("long",)), (Stacked, ("stack",)),
    (Overhang, ("name",)), (Beneath, ("names",)), (Taken, ("name",)), (NoTrunk, ("name",)),
    (NoBoard, ("name",)), (NoOrder, ("name",)), (Misfit, ("word",)), (Hindered, ("entry", "refusal")),
    (NoLine, ("line",)),
)
WITH_TEXT = (NoBlock, NotStacked, NoGrade, NoDeed, NoDay, NoEntry, NoRow)
REFUSALS = tuple(kind for kind, _ in WITH_FIELDS) + WITH_TEXT

# A number of 5,000 figures is one that Python refuses to write out.
VALUES = (0, 1, 40, 10 ** 60 - 1, -(10 ** 60), 10 ** 5000, "", "a", "abcdefgh", "breadth", "x" * 20000)


def made(kind, count):
    if kind is Beneath:
        return kind(["b"])
    return kind(*range(count)) if count else kind("a text")


def all_made():
    fields = dict(WITH_FIELDS)
    return [made(kind, len(fields.get(kind, ()))) for kind in REFUSALS]


class Families(unittest.TestCase):
    def test_all_that_are_listed_are_there_and_no_others(self):
        told = [thing for _, thing in inspect.getmembers(errors, inspect.isclass)]
        self.assertEqual(set(told), set(REFUSALS) | {SawError})
        self.assertEqual(len(REFUSALS), 20)
        for kind in told:
            self.assertEqual(kind.__module__, "sawtrunk.errors")

    def test_each_stands_straight_under_saw_error(self):
        self.assertEqual(SawError.__bases__, (ValueError,))
        for kind in REFUSALS:
            self.assertEqual(kind.__bases__, (SawError,), kind)

    def test_each_is_a_saw_error_and_none_of_the_other_ones(self):
        for refusal in all_made():
            self.assertIsInstance(refusal, SawError)
            self.assertIsInstance(refusal, ValueError)
            self.assertEqual([kind for kind in REFUSALS if isinstance(refusal, kind)], [refusal.__class__])

    def test_each_can_be_raised_and_caught(self):
        for refusal in all_made():
            with self.assertRaises(SawError) as caught:
                raise refusal
            self.assertIs(caught.exception, refusal)
            self.assertIsInstance(str(refusal), str)

    def test_saw_error_takes_a_text(self):
        self.assertEqual(str(SawError("why")), "why")


class Fields(unittest.TestCase):
    def test_one_field_is_what_it_was_made_of(self):
        for kind, fields in WITH_FIELDS:
            if len(fields) > 1 or kind is Beneath:
                continue
            for worth in VALUES:
                refusal = kind(worth)
                self.assertEqual(vars(refusal), {fields[0]: worth})
                self.assertIsInstance(str(refusal), str)

    def test_two_objects_have_fields_of_their_own(self):
        one = TooThick(1)
        other = TooThick(2)
        self.assertEqual((one.deep, other.deep), (1, 2))

    def test_beneath_has_a_list_of_names(self):
        for names in ([], ["a"], ["b", "a", "abcdefgh"], ["a", "a"]):
            refusal = Beneath(names)
            self.assertEqual(vars(refusal), {"names": names})
            self.assertIsInstance(refusal.names, list)

    def test_the_names_of_beneath_are_a_copy(self):
        names = ["b", "a"]
        refusal = Beneath(names)
        names.append("c")
        self.assertEqual(refusal.names, ["b", "a"])
        refusal.names.append("d")
        self.assertEqual(names, ["b", "a", "c"])

    def test_hindered_has_an_entry_and_a_refusal(self):
        for entry in (0, 7, 10 ** 60 - 1):
            for inner in all_made():
                refusal = Hindered(entry, inner)
                self.assertEqual(list(vars(refusal)), ["entry", "refusal"])
                self.assertEqual(refusal.entry, entry)
                self.assertIs(refusal.refusal, inner)
        self.assertEqual(Hindered(2, Hindered(1, TooThick(3))).refusal.refusal.deep, 3)

    def test_the_others_are_made_with_one_text(self):
        for kind in WITH_TEXT:
            refusal = kind("why not")
            self.assertEqual(str(refusal), "why not")
            self.assertEqual(vars(refusal), {})


if __name__ == "__main__":
    unittest.main()
