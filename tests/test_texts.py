import unittest

from sawtrunk.errors import SawError
from sawtrunk.mill import Mill
from sawtrunk.texts import read, written

from helper import hold_refused, hold_soon, mill_of, names, odd_things, same, told

RULES = (("fine", ("rot", "bark"), 0), ("good", (), 1), ("low", ("rot",), 20))
MEASURES = (1, 0, 2, 5, 0, RULES)
TRUNK = (((0, 6), (1, 7), (1, 7)), 20, (("knot", (1, 0, 2, 3, 1, 4)), ("rot", (0, 0, 19, 1, 1, 1000))))
ENTRIES = (
    (1, ("trunk", "t", TRUNK)), (1, ("trunk", "u", (((0, 10),), 9, ()))), (2, ("turn", "t")), (2, ("turn", "t")),
    (3, ("cut", "t", 1, "b")), (4, ("rip", "b", 3, "c")), (4, ("cross", "c", 8, "d")), (5, ("stack", "s", "b")),
    (7, ("off", "b")), (7, ("order", "o", 30, "low", 1, 2, 5)), (8, ("fill", "o", "b")), (1000000, ("turn", "u")),
)
TEXT = """mill 1 0 2 5 0 | fine 0 rot bark | good 1 | low 20 rot
1 trunk t 20 0-6 1-7 1-7 | knot 1 0 2 3 1 4 | rot 0 0 19 1 1 1000
1 trunk u 9 0-10
2 turn t
2 turn t
3 cut t 1 b
4 rip b 3 c
4 cross c 8 d
5 stack s b
7 off b
7 order o 30 low 1 2 5
8 fill o b
1000000 turn u"""
LINES = TEXT.split("\n")


def with_line(number, line):
    return "\n".join(LINES[:number] + [line] + LINES[number + 1:])


class TextsCase(unittest.TestCase):
    def refused(self, number, text):
        hold_refused(self, ("NoLine", number), read, text)

    def read_back(self, text):
        """The mill that a text writes; just this text is written of it."""
        mill = read(text)
        self.assertIsInstance(mill, Mill)
        same(self, written(mill), text)
        same(self, written(read(text)), text)
        return mill


class Written(TextsCase):
    def test_each_kind_of_line(self):
        mill = mill_of(MEASURES, *ENTRIES)
        same(self, written(mill), TEXT)
        same(self, written(mill), TEXT)
        same(self, mill.entries(), list(ENTRIES))

    def test_measures_alone(self):
        for measures, text in (
            ((0, 0, 1, 1, 0, (("low", (), 0),)), "mill 0 0 1 1 0 | low 0"),
            ((3, 3, 10 ** 6, 10 ** 6, 30, (("low", (), 10 ** 6),)), "mill 3 3 1000000 1000000 30 | low 1000000"),
            ((0, 1, 2, 3, 4, (("b", ("a", "a"), 1), ("a", ("z", "b"), 0))), "mill 0 1 2 3 4 | b 1 a a | a 0 z b"),
            ((0, 1, 2, 3, 4, (("mill", ("trunk",), 1),)), "mill 0 1 2 3 4 | mill 1 trunk"),
        ):
            same(self, written(Mill(measures)), text)
            same(self, written(self.read_back(text)), text)
            same(self, self.read_back(text).entries(), [])

    def test_in_the_order_of_the_entries(self):
        mill = mill_of(MEASURES, *ENTRIES[:5])
        mill.enter(2, ("turn", "u"))
        mill.enter(10, ("turn", "t"))
        mill.out(3)
        same(self, written(mill).split("\n")[1:], LINES[1:4] + ["2 turn u", "3 cut t 1 b", "10 turn t"])

    def test_numbers_of_a_thousand_figures(self):
        great = 10 ** 999
        trunk = (((0, great), (1, great)), great, (("knot", (great, 0, great, great, 1, great)),))
        mill = mill_of(MEASURES, (1, ("trunk", "t", trunk)), (1, ("order", "o", great, "low", great, great, great)))
        text = written(mill)
        word = "1" + "0" * 999
        self.assertEqual(text.split("\n")[1:], [
            f"1 trunk t {word} 0-{word} 1-{word} | knot {word} 0 {word} {word} 1 {word}",
            f"1 order o {word} low {word} {word} {word}",
        ])
        same(self, self.read_back(text).entries(), mill.entries())


class Read(TextsCase):
    def test_read_back(self):
        mill = self.read_back(TEXT)
        same(self, mill.entries(), list(ENTRIES))
        other = mill_of(MEASURES, *ENTRIES)
        for day in (1, 2, 3, 4, 5, 6, 7, 8, 9, 10 ** 6):
            same(self, told(mill, day), told(other, day))
        # It goes on as the other does.
        for one in (mill, other):
            one.enter(9, ("turn", "u"))
            hold_refused(self, ("NoBoard", "b"), one.enter, 9, ("off", "b"))
        same(self, written(mill), written(other))

    def test_measures_that_hold(self):
        mill = self.read_back("mill 3 0 2 5 1 | low 9\n1 trunk t 4 0-6 0-6 0-6 0-6\n1 cut t 1 b")
        # A saw of three leaves nothing; a trunk shorter than short makes no board.
        same(self, mill.block(1, "t"), None)
        same(self, mill.wood(1, "t"), (0, 24, 72, 0))

    def test_each_line_left_out_or_told_twice(self):
        for number in range(1, len(LINES)):
            self.hold_lines(LINES[:number] + LINES[number + 1:])
            self.hold_lines(LINES[:number] + [LINES[number]] + LINES[number:])
        self.refused(0, "\n".join(LINES[1:]))
        self.refused(1, "\n".join(LINES[:1] + LINES))

    def hold_lines(self, lines):
        """Lines that are all well written: read as deeds are entered one by one, up to the first that is refused."""
        mill = Mill(MEASURES)
        entries = {line: entry for line, entry in zip(LINES[1:], ENTRIES)}
        for number, line in enumerate(lines[1:]):
            try:
                mill.enter(*entries[line])
            except SawError:
                self.refused(number + 1, "\n".join(lines))
                return
        same(self, self.read_back("\n".join(lines)).entries(), mill.entries())

    def test_what_is_no_text(self):
        for thing in odd_things():
            self.refused(0, thing)
        for thing in (TEXT.encode(), LINES, tuple(LINES), {TEXT: TEXT}, [TEXT], None, True, 0):
            self.refused(0, thing)

    def test_texts_without_a_first_line(self):
        for text in ("", "\n", " ", "mill", "mill ", "\n" + TEXT, " " + TEXT, "mil" + TEXT[4:], "Mill" + TEXT[4:],
                     "mill" + TEXT, "ill" + TEXT[4:], TEXT[5:]):
            self.refused(0, text)


class Spoilt(TextsCase):
    def test_words_left_out_twice_or_one_more(self):
        for number, line in enumerate(LINES):
            words = line.split(" ")
            for k in range(len(words)):
                shorter = " ".join(words[:k] + words[k + 1:])
                longer = " ".join(words[:k] + [words[k]] + words[k:])
                for wrong in (shorter, longer):
                    self.hold_spoilt(number, wrong)

    def hold_spoilt(self, number, line):
        """A text with one other line: refused with that line, one behind it, or read and written as it stands."""
        text = with_line(number, line)
        try:
            mill = read(text)
        except SawError as error:
            self.assertEqual(error.__class__.__name__, "NoLine")
            self.assertGreaterEqual(error.line, number)
        else:
            same(self, written(mill), text)

    def test_each_sign_spoilt(self):
        for number, line in enumerate(LINES):
            for k in range(len(line)):
                for sign in ("", " ", "0", "9", "-", "|", "z", "Z", "\t", "\u0664", "\u00b2", "."):
                    self.hold_spoilt(number, line[:k] + sign + line[k + 1:])
                    self.hold_spoilt(number, line[:k] + sign + line[k:])

    def test_blanks(self):
        for number, line in enumerate(LINES):
            for wrong in (" " + line, line + " ", line.replace(" ", "  ", 1), line + "  ", "", " ", line + "\t",
                          line.replace(" ", "\t", 1), line + "\r",
                          line.rsplit(" ", 1)[0] + "  " + line.rsplit(" ", 1)[1]):
                self.refused(number, with_line(number, wrong))

    def test_line_ends(self):
        self.refused(len(LINES), TEXT + "\n")
        self.refused(1, LINES[0] + "\n")
        self.refused(1, LINES[0] + "\n\n" + LINES[1])
        for number in range(1, len(LINES)):
            self.refused(number, with_line(number, "\n" + LINES[number]))
            self.refused(number - 1, "\n".join(LINES[:number]) + "\r\n" + "\n".join(LINES[number:]))

    def test_a_first_line_that_is_none(self):
        for line in (
            "mill 4 0 2 5 0 | low 1", "mill 0 4 2 5 0 | low 1", "mill 0 0 0 5 0 | low 1", "mill 0 0 2 0 0 | low 1",
            "mill 0 0 2 5 31 | low 1", "mill 0 0 2 5 0", "mill 0 0 2 5 0 |", "mill 0 0 2 5 0 | low",
            "mill 0 0 2 5 | low 1", "mill 0 0 2 5 0 0 | low 1", "mill 0 0 2 5 0 | low 1 | low 2",
            "mill 0 0 2 5 0 | low 1 |", "mill 0 0 2 5 0 low 1", "mill 0 0 2 5 0 | low -1", "mill 0 0 2 5 0 | 1 low",
            "mill 0 0 2 5 0 | Low 1", "mill 0 0 2 5 0 | low 1 2", "mill 0 0 2 5 0 | low 1 rot 2",
            "mill 0 0 2 5 0 | low 1 rot | fine", "mill 0 0 2 5 0 | abcdefghi 1", "mill 0 0 2 5 0 | low 1 abcdefghi",
            "mill 0 0 2 5 0 | low 01", "mill 00 0 2 5 0 | low 1", "mill 0 0 02 5 0 | low 1", "mill 0 0 2 5 0 || low 1",
            "mill 0 0 2 5 0 | | low 1", "mill 0 0 2 5 0| low 1", "mill 0 0 2 5 0 |low 1", "mill +0 0 2 5 0 | low 1",
            "mill 0 0 2 5 0 | low 1 rot|", "mill 0 0 2 5 0 | fine 1 | good 2 | fine 1 a", "low 0 0 2 5 0 | low 1",
            "mill | low 1", "| low 1", "mill 0 0 2 5 x | low 1", "mill 0 0 2 5 0 | low x", "mill - 0 2 5 0 | low 1",
            "mill 1_0 0 2 5 0 | low 1", "mill \u0661 0 2 5 0 | low 1",
        ):
            self.refused(0, line)
            self.refused(0, with_line(0, line))

    def test_bounds_are_not_asked(self):
        rules = " ".join(f"| {name} 99999999 " + " ".join(names(15, "k")) for name in names(9, "g"))
        self.read_back(f"mill 0 0 99999999 99999999999 30 {rules}")
        trunk = "1 trunk t 99999 " + " ".join(["0-99"] * 60) + " | knot 9999 0 0 1 1 9999" * 30
        self.read_back("mill 0 0 1 1 0 | low 1\n" + trunk)

    def test_deeds_that_are_none(self):
        for line in (
            "1 trunk t 20", "1 trunk t 0 0-6", "1 trunk t 20 6-6", "1 trunk t 20 7-6", "1 trunk t 20 0-6 6-7",
            "1 trunk t 20 0-6 |", "1 trunk t 20 0-6 | knot 1 0 2 3 1", "1 trunk t 20 0-6 | knot 1 0 2 3 1 0",
            "1 trunk t 20 0-6 | knot 1 0 2 3 1 4 5", "1 trunk t 20 0-6 | 1 0 2 3 1 4 knot",
            "1 trunk t 20 0-6 knot 1 0 2 3 1 4", "1 trunk t 20 0-6 | Knot 1 0 2 3 1 4", "1 trunk t 20 0-6-8",
            "1 trunk t 20 06", "1 trunk t 20 -6", "1 trunk t 20 0-", "1 trunk t 20 00-6", "1 trunk t 20 0-06",
            "1 trunk t 020 0-6", "1 trunk T 20 0-6", "1 trunk 20 0-6", "1 trunk t 0-6", "1 trunk t 20 0 - 6",
            "1 trunk t 20 | knot 1 0 2 3 1 4", "1 trunk t | 20 0-6", "1 | trunk t 20 0-6",
            "1 trunk t 20 0-6 | knot 1 0 2 0 1 4", "1 trunk t 20 0-6 | knot -1 0 2 3 1 4",
            "1 trunk t 20 0-6 0-6 | | knot 1 0 2 3 1 4", "1 trunk t 20 0-3 1-2 0-3", "1 Trunk t 20 0-6",
            "1 trunks t 20 0-6", "1 trunk t 20 0-6|", "1trunk t 20 0-6", "trunk t 20 0-6",
        ):
            self.refused(1, with_line(1, line))
        for line in (
            "1 turn", "1 turn t t", "1 turn T", "1 turn 1", "1 turn abcdefghi", "1 cut t 0 c", "1 cut t c",
            "1 cut t 1", "1 cut t c 1", "1 rip b 0 c", "1 cross c 0 d", "1 stack s", "1 stack s b b", "1 off",
            "1 off 1", "1 fill o", "1 order o 0 low 1 2 5", "1 order o 30 low 0 2 5", "1 order o 30 low 1 0 5",
            "1 order o 30 low 1 2 0", "1 order o 30 1 2 5", "1 order o low 30 1 2 5", "1 order o 30 low 1 2",
            "1 order o 30 low 1 2 5 6", "1 mill", "1", "1 ", "1 1 turn t", "1 turn t | knot 1 0 2 3 1 4", "1 wood t",
            "1 cut t 01 c", "1 cut t -1 c", "1 cut t +1 c",
        ):
            self.refused(3, "\n".join(LINES[:3] + [line]))
            self.refused(3, "\n".join(LINES[:3] + [line] + LINES[3:]))

    def test_days(self):
        for day in ("0", "-1", "01", "1000001", "x", "", "1.0", "+1", "99999999999999999999"):
            self.refused(1, with_line(1, f"{day} trunk t 20 0-6"))
            self.refused(12, with_line(12, f"{day} turn u"))
        # A day below the one ahead.
        self.refused(3, with_line(2, "2 trunk u 9 0-10").replace("2 turn t", "1 turn t", 1))
        self.refused(12, with_line(12, "7 turn u"))
        self.read_back(with_line(12, "8 turn u"))
        self.refused(2, LINES[0] + "\n5 trunk t 20 0-6\n4 trunk u 20 0-6")
        self.read_back(LINES[0] + "\n5 trunk t 20 0-6\n5 trunk u 20 0-6\n6 turn t")

    def test_deeds_that_are_refused(self):
        for number, line in (
            (2, "1 trunk t 9 0-10"), (3, "2 turn z"), (5, "3 cut t 7 b"), (5, "3 cut z 1 b"), (6, "4 rip b 6 c"),
            (6, "4 rip z 1 c"), (6, "4 rip b 1 b"), (7, "4 cross c 20 d"), (8, "5 stack s z"), (9, "7 off c"),
            (10, "7 order o 30 high 1 2 5"), (11, "8 fill z b"), (11, "8 fill o z"), (11, "31 fill o b"),
        ):
            self.refused(number, with_line(number, line))

    def test_of_two_wrong_lines_the_first_one(self):
        for first in range(len(LINES)):
            for second in range(first + 1, len(LINES)):
                lines = list(LINES)
                lines[first] = lines[second] = "wrong"
                self.refused(first, "\n".join(lines))
                # The first is refused, the other isn't so written, and the other way about.
                if first > 0:
                    lines[first] = LINES[first].split(" ")[0] + " off zz"
                    self.refused(first, "\n".join(lines))
                    lines[second] = LINES[second].split(" ")[0] + " off zz"
                    self.refused(first, "\n".join(lines))


class Great(TextsCase):
    def test_soon(self):
        lines = ["mill 1 1 1 1 1 | low 20"]
        flaws = " | knot 999 999 999 1000 1000 1000"
        lines += [f"1 trunk {name} 1000 " + " ".join(["0-40"] * 30) + flaws * 2 for name in names(12, "t")]
        lines += [f"2 cut {names(12, 't')[k % 12]} 2 {name}" for k, name in enumerate(names(60, "b"))]
        lines += [f"3 order {name} 1000000 low 2 40 1000" for name in names(30, "o")]
        lines += [f"4 stack {names(18, 's')[k]} {names(60, 'b')[k]}" for k in range(18)]
        text = "\n".join(lines)
        self.assertEqual(len(lines), 121)
        mill = hold_soon(self, read, text)
        same(self, hold_soon(self, written, mill), text)
        hold_soon(self, self.refused, 120, text + "x x")


if __name__ == "__main__":
    unittest.main()
