import unittest

from sawtrunk.desk import Desk
from sawtrunk.errors import SawError
from sawtrunk.texts import read, written

from helper import hold_refused, hold_soon, names, odd_things, same, told_of

RULES = (("fine", ("rot",), 0), ("good", (), 1), ("low", (), 9))
MEASURES = (0, 1, 2, 1, 1, RULES)

# Rows and their answers, one behind another at one desk.
TALK = (
    ("entries", "0"),
    ("mill", "mill 0 1 2 1 1 | fine 0 rot | good 1 | low 9"),
    ("boards 1", "-"), ("stacks 1", "-"), ("orders 1", "-"), ("could 1", "0"),
    ("enter 2 trunk t 10 0-6 0-6 0-6 0-6 | rot 0 1 3 1 1 1", "ok"),
    ("wood 2 t", "0 0 0 240"),
    ("enter 3 cut t 1 b", "ok"),
    ("enter 3 cut t 1 ab", "ok"),
    ("boards 2", "-"),
    ("boards 3", "ab good 1 6 10 0 -; b fine 1 6 10 0 -"),
    ("wood 3 t", "120 0 0 120"),
    ("enter 4 stack s b", "ok"),
    ("enter 4 rip ab 3 c", "ok"),
    ("boards 4", "ab good 1 3 10 0 -; b fine 1 6 10 0 s; c fine 1 2 10 0 -"),
    ("wood 4 t", "110 0 10 120"),
    ("enter 5 stack s ab", "ok"),
    ("enter 5 stack r c", "ok"),
    ("enter 4 cross c 4 d", "ok"),
    ("stacks 4", "s b"),
    ("stacks 5", "r c; s b ab"),
    ("stacks 1000000", "r c; s b ab"),
    ("boards 6", "ab good 1 3 10 1 s; b fine 1 6 10 2 s; c fine 1 2 4 1 r; d fine 1 2 5 0 -"),
    ("enter 6 order o 9 low 1 2 4", "ok"),
    ("enter 6 order ab 9 fine 1 6 10", "ok"),
    ("enter 6 order p 9 fine 2 1 1", "ok"),
    ("orders 5", "-"), ("orders 6", "ab o p"), ("orders 1000000", "ab o p"),
    ("could 6", "2"), ("could 9", "2"), ("could 10", "0"), ("could 5", "0"),
    ("entries", "11"),
    ("enter 7 off c", "ok"),
    ("enter 7 fill o c", "ok"),
    ("orders 7", "ab p"),
    ("boards 7", "ab good 1 3 10 2 s; b fine 1 6 10 3 s; d fine 1 2 5 0 -"),
    ("stacks 7", "s b ab"),
    ("could 7", "1"),
    ("wood 7 t", "108 0 12 120"),
    ("enter 1 order q 1 low 1 1 1", "ok"),
    ("orders 1", "q"),
    ("out 0", "ok"),
    ("out 12", "ok"),
    ("entries", "12"),
    ("enter 8 turn t", "ok"),
    ("mill", """mill 0 1 2 1 1 | fine 0 rot | good 1 | low 9
2 trunk t 10 0-6 0-6 0-6 0-6 | rot 0 1 3 1 1 1
3 cut t 1 b
3 cut t 1 ab
4 stack s b
4 rip ab 3 c
4 cross c 4 d
5 stack s ab
5 stack r c
6 order o 9 low 1 2 4
6 order ab 9 fine 1 6 10
6 order p 9 fine 2 1 1
7 off c
8 turn t"""),
)


def desk_with(*rows):
    desk = Desk(MEASURES)
    for row in rows:
        desk.say(row)
    return desk


class DeskCase(unittest.TestCase):
    def refused(self, refusal, desk, row):
        """Refused with this; all is told as ahead of it."""
        words = ("boards", "stacks", "orders", "could")
        rows = ["mill", "entries"] + [f"{word} {day}" for word in words for day in (1, 5, 9)]
        kept = [desk.say(other) for other in rows]
        hold_refused(self, refusal, desk.say, row)
        same(self, [desk.say(other) for other in rows], kept)


class Talk(DeskCase):
    def test_each_row_with_its_answer(self):
        desk = Desk(MEASURES)
        for row, wanted in TALK:
            same(self, desk.say(row), wanted, row)

    def test_questions_twice(self):
        desk = Desk(MEASURES)
        for row, wanted in TALK:
            told = desk.say(row)
            if not row.startswith(("enter", "out")):
                for _ in range(2):
                    same(self, desk.say(row), told, row)

    def test_two_desks_by_turns(self):
        one, other = Desk(MEASURES), Desk((1, 0, 1, 1, 0, RULES))
        same(self, other.say("enter 1 trunk t 3 0-2 0-2 0-2"), "ok")
        for row, wanted in TALK:
            same(self, one.say(row), wanted, row)
            same(self, other.say("entries"), "1")
        same(self, other.say("enter 2 cut t 1 b"), "ok")
        same(self, other.say("wood 2 t"), "6 0 6 6")
        same(self, other.say("boards 2"), "b fine 1 2 3 0 -")
        same(self, one.say(TALK[-1][0]), TALK[-1][1])

    def test_a_text_that_is_read(self):
        mill = read(TALK[-1][1])
        same(self, written(mill), TALK[-1][1])
        desk = Desk(MEASURES)
        for line in TALK[-1][1].split("\n")[1:]:
            same(self, desk.say("enter " + line), "ok")
        same(self, desk.say("mill"), TALK[-1][1])

    def test_a_trunk_that_is_sawn_up(self):
        desk = desk_with("enter 1 trunk t 10 0-6 0-6", "enter 1 cut t 2 b")
        same(self, desk.say("wood 1 t"), "120 0 0 0")
        self.refused(("NoBlock",), desk, "enter 1 turn t")


class NoRows(DeskCase):
    WRONG = (
        "", " ", "  ", "enter", "enter ", "enter 1", "enter 1 ", "enter turn t", "enter x turn t", "enter -1 turn t",
        "enter 01 turn t", "enter 1 turn", "enter 1 turn t t", "enter 1 turn T", "enter 1 turn abcdefghi",
        "enter 1 turn 1", "enter  1 turn t", " enter 1 turn t", "enter 1 turn t ", "enter 1  turn t", "Enter 1 turn t",
        "enters 1 turn t", "enter 1 saw t", "enter 1 enter 1 turn t", "enter 12345678901 turn t",
        "enter 00000000001 turn t", "enter 1 cut t x c", "enter 1 cut t 01 c", "enter 1 cut t -1 c",
        "enter 1 cut t 12345678901 c", "enter 1 cut t 1", "enter 1 cut t 1 c d", "enter 1 cut 1 t c",
        "enter 1 rip b 1", "enter 1 rip b c 1", "enter 1 cross b 1 1", "enter 1 stack s", "enter 1 stack s 1",
        "enter 1 off", "enter 1 off b c", "enter 1 fill o", "enter 1 fill 1 b", "enter 1 order o 1 low 1 1",
        "enter 1 order o 1 low 1 1 1 1", "enter 1 order o low 1 1 1 1", "enter 1 order o x low 1 1 1",
        "enter 1 order o 12345678901 low 1 1 1", "enter 1 order o 1 1 1 1 1", "enter 1 order o 1 low 1 1 01",
        "enter 1 trunk u", "enter 1 trunk u 5", "enter 1 trunk u 5 | rot 0 0 0 1 1 1", "enter 1 trunk u 5 0-",
        "enter 1 trunk u 5 -6", "enter 1 trunk u 5 6", "enter 1 trunk u 5 0-6-7", "enter 1 trunk u 5 0-06",
        "enter 1 trunk u 5 x-y", "enter 1 trunk u 0-6", "enter 1 trunk u 5 0-6 |", "enter 1 trunk u 5 0-6 | rot",
        "enter 1 trunk u 5 0-6 | rot 0 0 0 1 1", "enter 1 trunk u 5 0-6 | rot 0 0 0 1 1 1 1",
        "enter 1 trunk u 5 0-6 | Rot 0 0 0 1 1 1", "enter 1 trunk u 5 0-6 rot 0 0 0 1 1 1",
        "enter 1 trunk u 5 0-6 | rot 0 0 0 1 1 x", "enter 1 trunk u 5 0-6 | | rot 0 0 0 1 1 1",
        "enter 1 trunk u 5 0-12345678901", "enter 1 trunk u 12345678901 0-6",
        "enter 1 trunk u 5 0-6 | rot 0 0 0 1 1 12345678901", "enter 1 trunk U 5 0-6", "out", "out x", "out -1",
        "out 00", "out 01", "out 0 0", "out 12345678901", "out ", "Out 0", "out 0 ", "boards", "boards 0",
        "boards 1000001", "boards x", "boards 01", "boards 1 1", "boards 9999999999", "boards -1", "boards 1 t",
        "wood", "wood 1", "wood t", "wood t 1", "wood 0 t", "wood 1000001 t", "wood 1 T", "wood 1 1", "wood 1 t t",
        "wood 1 abcdefghi", "stacks", "stacks 0", "stacks 1000001", "stacks s", "stacks 1 s", "stacks 1 ", "stacks 01",
        "orders", "orders 0", "orders 1000001", "orders o", "orders 1 o", "orders  1", "could", "could 0",
        "could 1000001", "could o", "could 1 1", "could 1.0", "could +1", "entries 1", "entries ", " entries",
        "Entries", "entrie", "entries\n", "mill 1", "mill ", "mill\n", "\nmill", "mill\nmill", "given 1", "block 1 t",
        "turn t", "cut t 1 b", "1 turn t", "-", "ok", "boards 1\n", "boards\t1", "boards \u0661", "boards \u00b2",
        "wood 1 \u00e4", "enter 1 turn \u0430", "boards " + "1" * 5000, "out " + "9" * 20000, "x" * 20000,
    )

    def test_rows_that_are_none(self):
        desk = desk_with("enter 1 trunk t 10 0-6 0-6", "enter 1 cut t 1 b", "enter 1 order o 5 low 1 1 1")
        for row in self.WRONG:
            self.refused(("NoRow",), desk, row)

    def test_what_is_no_text(self):
        desk = desk_with("enter 1 trunk t 10 0-6 0-6")
        for thing in odd_things():
            self.refused(("NoRow",), desk, thing)
        for thing in (["entries"], ("entries",), {"entries": 1}, b"entries", None, True):
            self.refused(("NoRow",), desk, thing)

    def test_each_word_spoilt(self):
        desk = Desk(MEASURES)
        for row, _ in TALK:
            words = row.split(" ")
            for k in range(len(words)):
                for word in ("", "X", "|", "-1", "1.", "a" * 9, "1" * 11, "0-", "\u00e4"):
                    for others in (words[k + 1:], words[k:]):
                        wrong = " ".join(words[:k] + [word] + others)
                        if wrong != row:
                            hold_refused(self, ("NoRow",), desk.say, wrong)
            desk.say(row)
        same(self, desk.say("mill"), TALK[-1][1])


class Refused(DeskCase):
    """Rows that are refused as the stages refuse."""

    def desk(self):
        return desk_with(
            "enter 1 trunk t 10 0-6 0-6 0-6 0-6", "enter 1 cut t 1 b", "enter 2 stack s b",
            "enter 2 order o 5 low 1 9 1",
            "enter 3 cut t 1 c", "enter 3 rip c 3 d", "enter 4 stack s c",
        )

    def test_days_in_enter(self):
        for day in ("0", "1000001", "9999999999"):
            self.refused(("NoDay",), self.desk(), f"enter {day} turn t")
            # Ahead of what is no deed.
            self.refused(("NoDay",), self.desk(), f"enter {day} cut t 0 e")
            self.refused(("NoRow",), self.desk(), f"enter {day} cut t x e")
        self.refused(("NoTrunk", "z"), self.desk(), "enter 1000000 turn z")

    def test_numbers_that_make_no_deed(self):
        for deed in (
            "cut t 0 e", "rip c 0 e", "cross c 0 e", "order p 0 low 1 1 1", "order p 1 low 0 1 1",
            "order p 1 low 1 0 1", "order p 1 low 1 1 0", "trunk u 0 0-6", "trunk u 5 6-6", "trunk u 5 7-6",
            "trunk u 5 0-3 3-6", "trunk u 5 0-3 1-2 0-3", "trunk u 5 0-6 | rot 0 0 0 0 1 1",
            "trunk u 5 0-6 | rot 0 0 0 1 0 1", "trunk u 5 0-6 | rot 0 0 0 1 1 0",
        ):
            self.refused(("NoDeed",), self.desk(), "enter 3 " + deed)

    def test_what_the_mill_refuses(self):
        for row, refusal in (
            ("enter 1 trunk t 5 0-6", ("Taken", "t")), ("enter 3 turn z", ("NoTrunk", "z")),
            ("wood 3 z", ("NoTrunk", "z")), ("wood 3 b", ("NoTrunk", "b")), ("enter 3 cut t 3 e", ("TooThick", 2)),
            ("enter 3 cut t 9999999999 e", ("TooThick", 2)), ("enter 3 cut t 1 b", ("Taken", "b")),
            ("enter 4 rip b 1 e", ("Stacked", "s")), ("enter 4 rip d 2 e", ("TooBroad", 2)),
            ("enter 4 cross d 10 e", ("TooLong", 10)), ("enter 4 off b", ("Beneath", ["c"])),
            ("enter 4 off d", ("NotStacked",)), ("enter 4 off z", ("NoBoard", "z")), ("enter 9 stack s d", None),
            ("enter 9 order o 1 low 1 1 1", ("Taken", "o")), ("enter 9 order p 1 other 1 1 1", ("NoGrade",)),
            ("enter 9 fill p d", ("NoOrder", "p")), ("enter 9 fill o d", ("Misfit", "breadth")),
            ("enter 3 stack s d", ("Hindered", 7, ("Overhang", "d"))),
            ("enter 1 cut t 3 e", ("Hindered", 5, ("NoBlock",))), ("out 1", ("Hindered", 1, ("NoBoard", "b"))),
            ("out 7", ("NoEntry",)), ("out 9999999999", ("NoEntry",)), ("out 6", None),
            ("enter 3 stack r b", ("Stacked", "s")),
        ):
            desk = self.desk()
            if refusal is None:
                same(self, desk.say(row), "ok")
            else:
                self.refused(refusal, desk, row)

    def test_wood_of_a_trunk_that_came_later(self):
        desk = desk_with("enter 5 trunk t 10 0-6")
        for day in (1, 4):
            self.refused(("NoTrunk", "t"), desk, f"wood {day} t")
        same(self, desk.say("wood 5 t"), "0 0 0 60")

    def test_numbers_of_ten_figures(self):
        desk = Desk(MEASURES)
        great = "9999999999"
        same(self, desk.say(f"enter 1 trunk t {great} 0-{great} | rot {great} 0 0 {great} 1 {great}"), "ok")
        same(self, desk.say(f"enter 1 order o {great} low {great} {great} {great}"), "ok")
        same(self, desk.say("orders 1"), "o")
        same(self, desk.say("wood 1 t"), f"0 0 0 {9999999999 ** 2}")

    def test_a_refusal_is_the_stages_own(self):
        desk = self.desk()
        try:
            desk.say("enter 1 cut t 3 e")
        except SawError as error:
            same(self, told_of(error), ("Hindered", 5, ("NoBlock",)))


class Great(DeskCase):
    def test_soon(self):
        desk = Desk((1, 1, 1, 1, 1, RULES))
        rows = [f"enter 1 trunk {name} 1000 " + " ".join(["0-40"] * 40) for name in names(12, "t")]
        rows += [f"enter 2 cut {names(12, 't')[k % 12]} 2 {name}" for k, name in enumerate(names(60, "b"))]
        rows += [f"enter 3 order {name} 1000000 low 2 40 1000" for name in names(30, "o")]
        rows += [f"enter 4 stack {names(18, 's')[k]} {names(60, 'b')[k]}" for k in range(18)]
        for row in rows:
            hold_soon(self, desk.say, row)
        same(self, desk.say("entries"), "120")
        same(self, hold_soon(self, desk.say, "could 9"), "18")
        for row in (
            "boards 9", "stacks 9", "orders 9", "wood 9 taa", "mill", "out 119", rows[119], "enter 1 turn taa",
            "out 12",
        ):
            hold_soon(self, desk.say, row)


if __name__ == "__main__":
    unittest.main()
