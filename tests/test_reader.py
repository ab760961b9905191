"""Texts read as programs, and refused [2] to [5], [12] to [16]."""

import unittest

from examples import TEXT, told_program
from exitweave.errors import Doubled, NoProgram, TooMuch, Unknown, WeaveError, WrongCount
from exitweave.reader import read_program
from exitweave.trees import Arm, Call, Function, Program, Row, Stretch, walk_rows
from making import made_text, misnamed_text, spoilt_text
from oracles import verdict

OWN_WORDS = [
    "fun", "way", "say", "leave", "if", "else", "stretch", "clean", "call", "on", "out", "again", "end", "fault",
]
NO_NAMES = OWN_WORDS + ["A", "Name", "ninelette", "x1", "1x", "x_y", "-x", "x.y", "+", "=", "-", ""]
NO_NUMBERS = [
    "00", "01", "-0", "-01", "--1", "+1", "1-", "1000000000000", "-1000000000000", "0000000000001", "1.0", "1_0", "-",
]


def shape(thing):
    """A tree as tuples, lists and plain values, so that two of them can be compared."""
    if isinstance(thing, (Row, Arm, Function, Program)):
        return (type(thing).__name__, {field: shape(value) for field, value in vars(thing).items()})
    if isinstance(thing, list):
        return [shape(part) for part in thing]
    return thing


def refusal(text):
    """The name and the fields of the refusal of a text, None where it is read."""
    try:
        read_program(text)
    except WeaveError as error:
        return (type(error).__name__,) + tuple(vars(error).values())
    return None


def joined(*lines):
    return "\n".join(lines)


class ReaderTest(unittest.TestCase):
    def assert_read(self, text):
        self.assertEqual(read_program(text).text(), text)
        self.assertIsNone(verdict(text))

    def assert_refused(self, error, text, **fields):
        with self.subTest(text=text[:300] if isinstance(text, str) else text):
            with self.assertRaises(error) as caught:
                read_program(text)
            self.assertIs(type(caught.exception), error)
            self.assertEqual(vars(caught.exception), fields)
            if isinstance(text, str):
                self.assertEqual(verdict(text), (error.__name__,) + tuple(fields.values()))

    def assert_no_program(self, text, place):
        self.assert_refused(NoProgram, text, place=place)


class ReadTest(ReaderTest):
    def test_all_kinds_of_lines_in_one_another(self):
        self.assertEqual(shape(read_program(TEXT)), shape(told_program()))
        self.assert_read(TEXT)

    def test_nothing_in_them(self):
        texts = [
            "fun m",
            joined("fun m", "fun n"),
            joined("fun m", "  way w 0", "  way v 3"),
            joined("fun m", "  if 0 = 0", "  else"),
            joined("fun m", "  if 0 = 0", "  else", "    say 1"),
            joined("fun m", "  if 0 = 0", "    say 1", "  else", "  say 2"),
            joined("fun m", "  stretch", "  clean"),
            joined("fun m", "  stretch", "  clean", "    say 1"),
            joined("fun m", "  stretch", "    say 1", "  clean", "  say 2"),
            joined("fun m", "  call m"),
            joined("fun m", "  call m", "  call m", "    on end", "fun n"),
            joined("fun m", "  call m", "    on end", "  say 0"),
            joined("fun m", "  call m", "    on end", "      say 0", "fun n", "  leave end"),
            joined("fun m", "  stretch", "    stretch", "      if a < b", "      else", "    clean", "  clean"),
        ]
        for text in texts:
            with self.subTest(text=text):
                self.assert_read(text)

    def test_a_body_without_rows(self):
        program = read_program(joined("fun m a b", "fun n", "  way w 2"))
        self.assertEqual([function.place for function in program.functions], [1, 2])
        self.assertEqual([function.rows for function in program.functions], [[], []])
        self.assertEqual([function.params for function in program.functions], [["a", "b"], []])
        self.assertEqual([function.ways for function in program.functions], [[], [("w", 2)]])
        self.assertEqual(program.function("n").all_ways(), ["fault", "end", "w"])

    def test_kinds_of_what_is_read(self):
        program = read_program(TEXT)
        self.assertIs(type(program), Program)
        main = program.functions[0]
        self.assertEqual(main.ways, [("good", 2), ("bad", 0)])
        for way in main.ways:
            self.assertIs(type(way), tuple)
            self.assertIs(type(way[1]), int)
        self.assertEqual(main.rows[0].atom, -5)
        self.assertIs(type(main.rows[0].atom), int)
        self.assertEqual(main.rows[4].atoms, ["a", -1])

    def test_one_name_for_a_variable_a_way_and_a_function(self):
        self.assert_read(joined(
            "fun a a", "  way a 1", "  a = a + a", "  call a a", "    on a a", "      leave a a", "    out end end",
        ))

    def test_names_and_numbers_as_long_as_they_may_be(self):
        self.assert_read(joined("fun abcdefgh zyxwvuts", "  x = 999999999999", "  x = -999999999999", "  say -1"))
        for word in ("func", "ways", "says", "ends", "faults", "ifs", "no", "o", "ago"):
            self.assert_read(joined("fun " + word + " " + word, "  way " + word + " 0", "  say " + word))

    def test_every_sign(self):
        rows = ["  x = x " + sign + " -1" for sign in "+-*/"]
        ifs = ["  if x " + sign + " 0\n  else" for sign in "<="]
        self.assert_read(joined("fun m", *rows, *ifs))
        read = read_program(joined("fun m", *rows, *ifs)).functions[0].rows
        self.assertEqual([row.op for row in read[:4]], ["+", "-", "*", "/"])
        self.assertEqual([row.sign for row in read[4:]], ["<", "="])
        self.assertEqual([(row.one, row.other) for row in read], [("x", -1)] * 4 + [("x", 0)] * 2)

    def test_a_function_is_called_ahead_of_its_line(self):
        self.assert_read(joined("fun m", "  call n 1", "    out w end", "fun n a", "  way w 0", "  call m"))

    def test_places(self):
        program = read_program(joined(
            "fun m", "  way w 0", "  if 0 = 1", "    say 1", "  else", "    stretch", "      call n",
            "        on end", "          say 2", "        out w w", "    clean", "      x = 1", "  say 3",
            "fun n", "  way w 0",
        ))
        main, other = program.functions
        self.assertEqual((main.place, other.place), (1, 14))
        walked = walk_rows(main.rows)
        self.assertEqual([row.place for row in walked], [3, 4, 6, 7, 9, 12, 13])
        stretch = walked[2]
        self.assertEqual((stretch.place, stretch.clean_place), (6, 11))
        self.assertEqual([arm.place for arm in walked[3].arms], [8, 10])

    def test_places_in_texts_that_were_made(self):
        for seed in range(150):
            text = made_text(seed, armed=seed % 2 == 0)
            lines = [line.strip() for line in text.split("\n")]
            program = read_program(text)
            self.assertEqual(program.text(), text)
            places = []
            for function in program.functions:
                self.assertEqual(lines[function.place - 1], function.lines(0)[0])
                places.append(function.place)
                for row in walk_rows(function.rows):
                    self.assertEqual(lines[row.place - 1], row.lines(0)[0])
                    places.append(row.place)
                    if isinstance(row, Stretch):
                        self.assertEqual(lines[row.clean_place - 1], "clean")
                        places.append(row.clean_place)
                    if isinstance(row, Call):
                        for arm in row.arms:
                            self.assertEqual(lines[arm.place - 1], arm.lines(0)[0])
                            places.append(arm.place)
            others = [place for place, line in enumerate(lines, 1) if line == "else" or line.startswith("way ")]
            self.assertEqual(sorted(places + others), list(range(1, len(lines) + 1)))

    def test_the_same_text_is_read_alike_each_time(self):
        one, other = read_program(TEXT), read_program(TEXT)
        self.assertIsNot(one, other)
        self.assertEqual(shape(one), shape(other))
        one.function("main").all_ways().clear()
        self.assertEqual(shape(read_program(TEXT)), shape(other))


class NoTextTest(ReaderTest):
    def test_the_text_without_signs(self):
        self.assert_no_program("", 1)

    def test_what_is_no_text(self):
        for thing in (None, 0, 1, True, ["fun m"], ("fun m",), {"fun m": 1}, b"fun m", 1.5, object(), told_program()):
            self.assert_refused(NoProgram, thing, place=0)


class NoLineTest(ReaderTest):
    def test_empty_lines(self):
        self.assert_no_program("\n", 1)
        self.assert_no_program("\nfun m", 1)
        self.assert_no_program("fun m\n", 2)
        self.assert_no_program("fun m\n\n", 2)
        self.assert_no_program("fun m\n\n  say 1", 2)
        self.assert_no_program("fun m\n  say 1\n\nfun n", 3)
        self.assert_no_program("fun m\n  say 1\n", 3)
        for blanks in range(1, 9):
            self.assert_no_program("fun m\n" + " " * blanks, 2)
            self.assert_no_program("fun m\n  stretch\n" + " " * blanks + "\n  clean", 3)

    def test_blanks(self):
        lines = TEXT.split("\n")
        for spot, line in enumerate(lines):
            content = line.lstrip(" ")
            ahead = " " * (len(line) - len(content))
            spoilt = [line + " ", line + "  ", " " + line, line + "\t", line + "\r", "\t" + line]
            if ahead:
                spoilt.append(line[1:])
            if " " in content:
                spoilt.append(ahead + content.replace(" ", "  ", 1))
                spoilt.append(ahead + content.replace(" ", "\t", 1))
            for other in spoilt:
                self.assert_no_program(joined(*lines[:spot], other, *lines[spot + 1:]), spot + 1)

    def test_lines_that_are_none(self):
        for line in [
            "x", "x =", "= 1", "x = 1 2", "x = 1 +", "x = + 1", "x = 1 + 2 + 3", "x + 1", "x == 1", "x = 1 % 2", "x = 1 < 2",
            "x= 1", "x =1", "x=1", "1 = x", "x := 1", "x = 1 ** 2", "x = 1 // 2", "x = 1 - 2 3",
            "say", "say 1 2", "say x y", "Say 1", "says 1", "leave", "leave 0", "leave 1 x", "leave end +",
            "if", "if x", "if x <", "if x < 1 2", "if x > 1", "if x <= 1", "if x == 1", "if x + 1", "if < 1", "if x < 1 else",
            "stretch x", "stretch 1", "clean", "else", "clean x", "call", "call 1", "call -", "call m +", "call m (x)",
            "way w 0", "fun m", "on end", "out end end", "again end", "end", "fault", "fault 0", "leave fault 0", "return",
            "x y z", "# say 1", "say 1;", "say 'x'", "x = y z",
        ]:
            text = joined("fun m", "  say 1", "  " + line, "  say 2")
            self.assert_no_program(text, 3)

    def test_lines_of_functions_that_are_none(self):
        for line in ["fun", "fun 1", "fun m 1", "fun m -", "Fun m", "function m", "fun m a 0 b", "m", "say 1", "else", "clean"]:
            self.assert_no_program(line, 1)
            self.assert_no_program(joined("fun m", "  say 1", line), 3)

    def test_lines_of_ways_that_are_none(self):
        for line in ["way", "way w", "way 1", "way w w", "way w 0 0", "way 0 w", "ways w 0", "way w 0 x", "w 0"]:
            self.assert_no_program(joined("fun m", "  " + line), 2)
            self.assert_no_program(joined("fun m", "  way v 0", "  " + line), 3)

    def test_a_ways_count(self):
        for count in range(4):
            self.assert_read(joined("fun m", "  way w " + str(count)))
        for count in ["4", "5", "9", "10", "-1", "-0", "00", "01", "03", "+1", "x", "two", "3.", "0x1", "end", ""]:
            self.assert_no_program(joined("fun m", "  way w " + count), 2)

    def test_arms_that_are_none(self):
        for line in [
            "on", "on 0", "on end 1", "on end -", "out", "out end", "out end end end", "out end 0", "out 0 end", "again",
            "again 1", "again end 1", "again end -x", "end", "On end", "out end = end",
        ]:
            self.assert_no_program(joined("fun m", "  call m", "    " + line), 3)

    def test_words_that_are_no_names(self):
        for line in (
            "fun {}", "fun {} a", "fun m {}", "fun m a {}", "fun m {} a",
        ):
            for word in NO_NAMES:
                self.assert_no_program(line.format(word), 1)
        for line in ("  way {} 0", "  {} = 1", "  {} = 1 + 1", "  call {}", "  call {} 1"):
            for word in NO_NAMES + NO_NUMBERS + ["0", "12", "-7"]:
                self.assert_no_program(joined("fun m", line.format(word), "  say 1"), 2)
        for line in ("on end {}", "on w a {}", "on w {} a", "again end {}", "again w a {} b"):
            for word in NO_NAMES + NO_NUMBERS + ["0", "12", "-7"]:
                self.assert_no_program(joined("fun m", "  call m", "    " + line.format(word)), 3)
        for word in NO_NAMES:
            self.assert_no_program(joined("fun m", "  stretch", "  clean", "    " + word + " = 1"), 4)

    def test_words_that_are_no_ways(self):
        for word in NO_NAMES + NO_NUMBERS + ["0", "12", "-7"]:
            if word != "end":
                self.assert_no_program(joined("fun m", "  leave " + word), 2)
                self.assert_no_program(joined("fun m", "  leave " + word + " 0"), 2)
                for line in ("on {}", "on {} x", "out {} end", "out end {}", "out {} {}", "again {}", "again {} x"):
                    self.assert_no_program(joined("fun m", "  call m", "    " + line.format(word, word)), 3)

    def test_words_that_are_no_atoms(self):
        for word in NO_NAMES + NO_NUMBERS:
            for line in (
                "x = {}", "x = {} + 1", "x = 1 / {}", "say {}", "leave end {}", "leave w 1 {} x", "if {} < 1\n  else",
                "if 1 = {}\n  else", "call m {}", "call m x {} 0",
            ):
                self.assert_no_program(joined("fun m", "  " + line.format(word)), 2)
            for line in ("x = {}", "say {}"):
                self.assert_no_program(joined("fun m", "  stretch", "  clean", "    " + line.format(word)), 4)

    def test_numbers_of_thirteen_figures(self):
        for number in ("999999999999", "-999999999999", "100000000000"):
            self.assert_read(joined("fun m", "  say " + number))
        for number in ("1000000000000", "-1000000000000", "9999999999999", "0000000000000"):
            for line in ("say {}", "x = {}", "x = 1 * {}", "leave end {}", "call m {}"):
                self.assert_no_program(joined("fun m", "  " + line.format(number)), 2)


class NoPlaceTest(ReaderTest):
    """Lines that cannot stand where they stand."""

    def test_the_first_line(self):
        for line in ("  fun m", "say 1", "  say 1", "way w 0", "  way w 0", "if 0 = 0", "stretch", "call m", "on end"):
            self.assert_no_program(line, 1)
            self.assert_no_program(joined(line, "fun m"), 1)

    def test_a_row_at_depth_0(self):
        for line in ("say 1", "x = 1", "x = 1 + 1", "leave end", "if 0 = 0", "stretch", "call m", "way w 0", "on end"):
            self.assert_no_program(joined("fun m", line), 2)
            self.assert_no_program(joined("fun m", "  say 1", line, "fun n"), 3)

    def test_a_line_that_is_too_deep(self):
        self.assert_no_program(joined("fun m", "    say 1"), 2)
        self.assert_no_program(joined("fun m", "    way w 0"), 2)
        self.assert_no_program(joined("fun m", "  way w 0", "    way v 0"), 3)
        self.assert_no_program(joined("fun m", "  way w 0", "    say 1"), 3)
        self.assert_no_program(joined("fun m", "  say 1", "    say 1"), 3)
        self.assert_no_program(joined("fun m", "  x = 1", "    say 1"), 3)
        self.assert_no_program(joined("fun m", "  leave end", "    say 1"), 3)
        self.assert_no_program(joined("fun m", "  if 0 = 0", "      say 1", "  else"), 3)
        self.assert_no_program(joined("fun m", "  if 0 = 0", "  else", "      say 1"), 4)
        self.assert_no_program(joined("fun m", "  stretch", "      say 1", "  clean"), 3)
        self.assert_no_program(joined("fun m", "  stretch", "  clean", "      say 1"), 4)
        self.assert_no_program(joined("fun m", "  stretch", "  clean", "    say 1", "      say 1"), 5)
        self.assert_no_program(joined("fun m", "  call m", "      on end"), 3)
        self.assert_no_program(joined("fun m", "  call m", "    on end", "        say 1"), 4)
        self.assert_no_program(joined("fun m", "  call m", "    out end end", "      say 1"), 4)
        self.assert_no_program(joined("fun m", "  call m", "    again end", "      say 1"), 4)
        self.assert_no_program(joined("fun m", "    fun n"), 2)

    def test_a_way_behind_a_row(self):
        self.assert_no_program(joined("fun m", "  say 1", "  way w 0"), 3)
        self.assert_no_program(joined("fun m", "  way v 0", "  say 1", "  way w 0"), 4)
        self.assert_no_program(joined("fun m", "  stretch", "    way w 0", "  clean"), 3)
        self.assert_no_program(joined("fun m", "  stretch", "  clean", "  way w 0"), 4)
        self.assert_no_program(joined("fun m", "  call m", "  way w 0"), 3)
        self.assert_no_program(joined("fun m", "  call m", "    way w 0"), 3)

    def test_a_function_that_is_too_deep(self):
        self.assert_no_program(joined("fun m", "  fun n"), 2)
        self.assert_no_program(joined("fun m", "  stretch", "    fun n", "  clean"), 3)
        self.assert_no_program(joined("fun m", "  call m", "    fun n"), 3)

    def test_an_else_that_is_lacking(self):
        self.assert_no_program(joined("fun m", "  if 0 = 0"), 3)
        self.assert_no_program(joined("fun m", "  if 0 = 0", "    say 1"), 4)
        self.assert_no_program(joined("fun m", "  if 0 = 0", "  say 1"), 3)
        self.assert_no_program(joined("fun m", "  if 0 = 0", "  clean"), 3)
        self.assert_no_program(joined("fun m", "  if 0 = 0", "  if 0 = 0", "  else"), 3)
        self.assert_no_program(joined("fun m", "  if 0 = 0", "    say 1", "fun n"), 4)
        self.assert_no_program(joined("fun m", "  if 0 = 0", "    if 0 = 1", "  else"), 4)
        self.assert_no_program(joined("fun m", "  if 0 = 0", "    if 0 = 1", "    else"), 5)
        self.assert_no_program(joined("fun m", "  if 0 = 0", "    if 0 = 1", "      say 1"), 5)
        self.assert_no_program(joined("fun m", "  if 0 = 0", "    stretch", "    clean", "  clean"), 5)
        self.assert_no_program(joined("fun m", "  if 0 = 0", "    call m", "      on end", "  say 1"), 5)
        self.assert_no_program(joined("fun m", "  if 0 = 0", "  else x"), 3)

    def test_a_clean_that_is_lacking(self):
        self.assert_no_program(joined("fun m", "  stretch"), 3)
        self.assert_no_program(joined("fun m", "  stretch", "    say 1"), 4)
        self.assert_no_program(joined("fun m", "  stretch", "  say 1"), 3)
        self.assert_no_program(joined("fun m", "  stretch", "  else"), 3)
        self.assert_no_program(joined("fun m", "  stretch", "fun n"), 3)
        self.assert_no_program(joined("fun m", "  stretch", "    stretch", "  clean"), 4)
        self.assert_no_program(joined("fun m", "  stretch", "    stretch", "    clean"), 5)
        self.assert_no_program(joined("fun m", "  stretch", "    if 0 = 0", "    else", "  else"), 5)
        self.assert_no_program(joined("fun m", "  stretch", "  clean 1"), 3)

    def test_an_else_or_a_clean_too_many(self):
        for word in ("else", "clean"):
            self.assert_no_program(joined("fun m", "  " + word), 2)
            self.assert_no_program(joined("fun m", "  say 1", "  " + word), 3)
            self.assert_no_program(joined("fun m", "  say 1", "    " + word), 3)
            self.assert_no_program(joined("fun m", "  if 0 = 0", "  else", "  " + word), 4)
            self.assert_no_program(joined("fun m", "  stretch", "  clean", "  " + word), 4)
            self.assert_no_program(joined("fun m", "  stretch", "    " + word, "  clean"), 3)
            self.assert_no_program(joined("fun m", "  call m", "  " + word), 3)
            self.assert_no_program(joined("fun m", "  call m", "    " + word), 3)
            self.assert_no_program(joined("fun m", word), 2)

    def test_clean_up_rows(self):
        self.assert_read(joined("fun m", "  stretch", "  clean", "    say 1", "    x = 1", "    x = y", "    say x"))
        for lines in (
            ["x = 1 + 1"], ["leave end"], ["if 0 = 0", "else"], ["stretch", "clean"], ["call m"], ["on end"], ["clean"],
            ["else"], ["x = 1 / 0"],
        ):
            spoilt = ["    " + line for line in lines]
            self.assert_no_program(joined("fun m", "  stretch", "  clean", *spoilt), 4)
            self.assert_no_program(joined("fun m", "  stretch", "  clean", "    say 1", *spoilt, "  say 2"), 5)

    def test_an_arm_outside_a_call(self):
        for arm in ("on end", "on end x", "out end end", "again end"):
            self.assert_no_program(joined("fun m", "  " + arm), 2)
            self.assert_no_program(joined("fun m", "  say 1", "    " + arm), 3)
            self.assert_no_program(joined("fun m", "  call m", "  " + arm), 3)
            self.assert_no_program(joined("fun m", "  stretch", "    " + arm, "  clean"), 3)
            self.assert_no_program(joined("fun m", "  if 0 = 0", "    " + arm, "  else"), 3)
            self.assert_no_program(joined("fun m", "  call m", "    on end", "      " + arm), 4)
            self.assert_no_program(joined("fun m", "  call m", "    out end end", "      " + arm), 4)

    def test_a_row_where_an_arm_has_to_stand(self):
        for row in ("say 1", "x = 1", "x = 1 + 1", "leave end", "if 0 = 0", "stretch", "call m"):
            self.assert_no_program(joined("fun m", "  call m", "    " + row), 3)
            self.assert_no_program(joined("fun m", "  call m", "    on end", "      say 1", "    " + row), 5)

    def test_the_first_of_several_lines_is_told(self):
        self.assert_no_program(joined("fun m", "  say", "  x"), 2)
        self.assert_no_program(joined("fun m", "  if 0 = 0", "    say", "fun"), 3)
        self.assert_no_program(joined("fun m", "  stretch", "", "say"), 3)


class TooMuchTest(ReaderTest):
    def assert_too_much(self, text, place):
        self.assert_refused(TooMuch, text, place=place)

    def names(self, count):
        return ["abcdefghij"[k // 10] + "abcdefghij"[k % 10] for k in range(count)]

    def test_functions(self):
        lines = ["fun " + name for name in self.names(42)]
        self.assert_read(joined(*lines[:40]))
        self.assert_too_much(joined(*lines[:41]), 41)
        self.assert_too_much(joined(*lines), 41)
        self.assert_too_much(joined("fun zz", "  say 1", *lines[:40]), 42)
        self.assert_no_program(joined(*lines[:40], "fun end"), 41)
        self.assert_no_program(joined(*lines[:40], "say 1"), 41)
        self.assert_too_much(joined(*lines[:41], "fun end"), 41)
        self.assert_no_program(joined(*lines[:39], "fun end", *lines[40:]), 40)
        self.assert_no_program(joined(*lines[:40], "  if 0 = 0", lines[40]), 42)

    def test_parameters(self):
        self.assert_read("fun m a b c d")
        self.assert_too_much("fun m a b c d e", 1)
        self.assert_too_much("fun m a b c d e f g h", 1)
        self.assert_too_much(joined("fun m", "  say 1", "fun n a b c d e"), 3)
        self.assert_no_program("fun m a b c d end", 1)
        self.assert_no_program("fun m a b c d e 1", 1)
        self.assert_no_program(" fun m a b c d e", 1)
        self.assert_no_program(joined("fun m", "  fun n a b c d e"), 2)
        self.assert_too_much(joined("fun m a b c d e", "x"), 1)
        self.assert_no_program(joined("fun m", "  if 0 = 0", "fun n a b c d e"), 3)

    def test_declared_ways(self):
        lines = ["  way " + name + " 0" for name in self.names(10)]
        self.assert_read(joined("fun m", *lines[:8]))
        self.assert_read(joined("fun m", *lines[:8], "fun n", *lines[:8]))
        self.assert_too_much(joined("fun m", *lines[:9]), 10)
        self.assert_too_much(joined("fun m", *lines), 10)
        self.assert_too_much(joined("fun n", *lines[:8], "fun m", *lines[:9]), 19)
        self.assert_no_program(joined("fun m", *lines[:8], "  way w 4"), 10)
        self.assert_no_program(joined("fun m", *lines[:8], "  way end 0"), 10)
        self.assert_no_program(joined("fun m", *lines[:8], "    way w 0"), 10)
        self.assert_no_program(joined("fun m", *lines[:8], "  say 1", "  way w 0"), 11)
        self.assert_too_much(joined("fun m", *lines[:9], "  way w 4"), 10)

    def test_lines(self):
        full = ["fun m"] + ["  say 1"] * 399
        self.assert_read(joined(*full))
        self.assert_too_much(joined(*full, "  say 1"), 401)
        self.assert_too_much(joined(*full, *full), 401)
        for line in ("fun n", "  stretch", "  if 0 = 0", "  call m", "  leave end"):
            self.assert_too_much(joined(*full, line), 401)
        for line in ("  way w 0", "say 1", "    say 1", "", "  else", "  x"):
            self.assert_no_program(joined(*full, line), 401)
        self.assert_too_much(joined(*full, "  say 1", "x"), 401)
        self.assert_no_program(joined(*full[:-1], "x", "  say 1"), 400)
        self.assert_too_much(joined(*full[:-1], "  if 0 = 0", "  else"), 401)
        self.assert_too_much(joined(*full[:-1], "  stretch", "  clean"), 401)
        self.assert_too_much(joined(*full[:-1], "  call m", "    on end"), 401)
        self.assert_no_program(joined(*full[:-1], "  if 0 = 0"), 401)
        self.assert_no_program(joined(*full[:-1], "  stretch"), 401)
        self.assert_too_much(joined(*full, "  if 0 = 0"), 401)

    def stretches(self, depth, within):
        """Stretches one in the other, the innermost line at the depth; lines stand within it."""
        ahead = ["  " * level + "stretch" for level in range(1, depth)]
        behind = ["  " * level + "clean" for level in range(depth - 1, 0, -1)]
        return joined("fun m", *ahead, *["  " * depth + line for line in within], *behind)

    def test_depth(self):
        self.assert_read(self.stretches(14, ["say 1"]))
        self.assert_read(self.stretches(14, ["call m", "if 0 = 0", "else", "stretch", "clean"]))
        self.assert_too_much(self.stretches(15, ["say 1"]), 16)
        self.assert_too_much(self.stretches(15, ["stretch", "clean"]), 16)
        self.assert_too_much(self.stretches(14, ["if 0 = 0", "  say 1", "else"]), 16)
        self.assert_too_much(self.stretches(14, ["if 0 = 0", "else", "  say 1"]), 17)
        self.assert_too_much(self.stretches(14, ["stretch", "clean", "  say 1"]), 17)
        self.assert_too_much(self.stretches(14, ["call m", "  on end"]), 16)
        self.assert_too_much(self.stretches(20, ["say 1"]), 16)
        self.assert_too_much(self.stretches(200, ["say 1"]), 16)
        self.assert_no_program(self.stretches(15, ["say"]), 16)
        self.assert_no_program(self.stretches(15, ["on end"]), 16)
        self.assert_no_program(self.stretches(14, ["  say 1"]), 15)
        self.assert_no_program(self.stretches(14, ["say 1", "  say 1"]), 16)
        self.assert_no_program(self.stretches(14, ["stretch", "    say 1", "clean"]), 16)
        self.assert_too_much(self.stretches(15, ["say 1", "x"]), 16)

    def test_depth_of_calls_and_ifs(self):
        lines = ["fun m"]
        for depth in range(1, 14, 2):
            lines += ["  " * depth + "call m", "  " * (depth + 1) + "on end"]
        self.assert_read(joined(*lines))
        self.assert_too_much(joined(*lines, "  " * 15 + "say 1"), 16)
        self.assert_no_program(joined(*lines, "  " * 15 + "on end"), 16)
        self.assert_no_program(joined(*lines, "  " * 16 + "say 1"), 16)
        ifs = ["  " * depth + "if 0 = 0" for depth in range(1, 15)]
        elses = ["  " * depth + "else" for depth in range(14, 0, -1)]
        self.assert_read(joined("fun m", *ifs, *elses))
        self.assert_too_much(joined("fun m", *ifs, "  " * 15 + "if 0 = 0", *elses), 16)

    def test_many_lines_are_refused_soon(self):
        self.assert_too_much(joined("fun m", *["  say 1"] * 4000), 401)
        self.assert_no_program("\n" * 39999, 1)


class DoubledTest(ReaderTest):
    def assert_doubled(self, text, place, name):
        self.assert_refused(Doubled, text, place=place, name=name)

    def test_functions(self):
        self.assert_doubled(joined("fun m", "fun m"), 2, "m")
        self.assert_doubled(joined("fun m", "  say 1", "fun n", "fun m a"), 4, "m")
        self.assert_doubled(joined("fun m", "fun n", "fun n", "fun m"), 3, "n")

    def test_parameters(self):
        self.assert_doubled("fun m a a", 1, "a")
        self.assert_doubled("fun m a b a", 1, "a")
        self.assert_doubled("fun m a b b a", 1, "b")
        self.assert_doubled("fun m a b a b", 1, "a")
        self.assert_doubled("fun m m m", 1, "m")
        self.assert_read(joined("fun m a", "fun n a"))

    def test_of_a_function_and_a_parameter_the_function_is_told(self):
        self.assert_doubled(joined("fun m", "fun m a a"), 2, "m")

    def test_declared_ways(self):
        self.assert_doubled(joined("fun m", "  way w 0", "  way w 0"), 3, "w")
        self.assert_doubled(joined("fun m", "  way w 0", "  way v 1", "  way w 2", "  way v 1"), 4, "w")
        self.assert_doubled(joined("fun n", "  way w 0", "fun m", "  way v 0", "  way v 0"), 5, "v")
        self.assert_read(joined("fun m", "  way w 0", "fun n", "  way w 1"))

    def test_ways_of_arms(self):
        ways = ["fun m", "  way w 0", "  way v 0"]
        self.assert_doubled(joined(*ways, "  call m", "    on w", "    on w"), 6, "w")
        self.assert_doubled(joined(*ways, "  call m", "    on w", "    out w v"), 6, "w")
        self.assert_doubled(joined(*ways, "  call m", "    out end w", "    again end"), 6, "end")
        self.assert_doubled(joined(*ways, "  call m", "    again v", "    on w", "      say 1", "    on v"), 8, "v")
        self.assert_read(joined(*ways, "  call m", "    out w end", "    out v end", "    out end end"))
        self.assert_read(joined(*ways, "  call m", "    on w", "      call m", "        on w", "    on v"))
        self.assert_read(joined(*ways, "  call m", "    on w", "  call m", "    on w"))
        within = ["  call m", "    on w", "      call m", "        on v", "    on w"]
        self.assert_doubled(joined(*ways, *within), 8, "w")

    def test_variables_in_an_arm(self):
        ways = ["fun m", "  way w 2", "  way v 3"]
        self.assert_doubled(joined(*ways, "  call m", "    on w x x"), 5, "x")
        self.assert_doubled(joined(*ways, "  call m", "    again v x y x"), 5, "x")
        self.assert_doubled(joined(*ways, "  call m", "    on v x y y"), 5, "y")
        self.assert_doubled(joined(*ways, "  call m", "    on w x y", "    on w x x"), 6, "w")
        self.assert_read(joined(*ways, "  call m", "    on w x y", "    again v x y z"))
        self.assert_read(joined(*ways, "  call m", "    on w w x"))

    def test_doubled_stands_ahead_of_unknown_and_wrong_count_on_a_line(self):
        self.assert_doubled(joined("fun m", "  call m", "    on w x x"), 3, "x")
        self.assert_doubled(joined("fun m", "  call m", "    on end x x"), 3, "x")
        self.assert_doubled(joined("fun m", "  call m", "    on end", "    out end w"), 4, "end")
        self.assert_doubled(joined("fun m", "  way w 1", "  call m", "    on end", "    again end x"), 5, "end")


class UnknownTest(ReaderTest):
    def assert_unknown(self, text, place, name):
        self.assert_refused(Unknown, text, place=place, name=name)

    def test_functions(self):
        self.assert_unknown(joined("fun m", "  call n"), 2, "n")
        self.assert_unknown(joined("fun m", "  way n 0", "  n = 1", "  call n n"), 4, "n")
        self.assert_unknown(joined("fun m", "  stretch", "    call n", "      on w", "  clean", "  call k"), 3, "n")

    def test_ways_of_leaves(self):
        self.assert_unknown(joined("fun m", "  leave w"), 2, "w")
        self.assert_unknown(joined("fun m", "  leave m 1"), 2, "m")
        self.assert_unknown(joined("fun m", "  leave w", "fun n", "  way w 0"), 2, "w")

    def test_ways_of_arms(self):
        self.assert_unknown(joined("fun m", "  way w 0", "  call n", "    on w", "fun n"), 4, "w")
        self.assert_unknown(joined("fun m", "  way w 0", "  call n", "    again w", "fun n"), 4, "w")
        self.assert_unknown(joined("fun m", "  way w 0", "  call n", "    out w w", "fun n"), 4, "w")
        self.assert_unknown(joined("fun m", "  call n", "    out w v", "fun n"), 3, "w")
        self.assert_unknown(joined("fun m", "  call n", "    out w v", "fun n", "  way w 0"), 3, "v")
        self.assert_unknown(joined("fun m", "  call n", "    out v w", "fun n", "  way w 0"), 3, "v")

    def test_unknown_stands_ahead_of_wrong_count_on_a_line(self):
        self.assert_unknown(joined("fun m a", "  call n 1 2"), 2, "n")
        self.assert_unknown(joined("fun m", "  leave w 1 2 3 4"), 2, "w")
        self.assert_unknown(joined("fun m", "  call m", "    out end w"), 3, "w")

    def test_within_rows_of_all_kinds(self):
        leave = "leave w"
        self.assert_unknown(joined("fun m", "  if 0 = 0", "    " + leave, "  else"), 3, "w")
        self.assert_unknown(joined("fun m", "  if 0 = 0", "  else", "    " + leave), 4, "w")
        self.assert_unknown(joined("fun m", "  stretch", "    " + leave, "  clean"), 3, "w")
        self.assert_unknown(joined("fun m", "  call m", "    on end", "      " + leave), 4, "w")
        self.assert_unknown(joined("fun n", "  way w 0", "  leave w", "fun m", "  " + leave), 5, "w")


class WrongCountTest(ReaderTest):
    def assert_wrong_count(self, text, place, name):
        self.assert_refused(WrongCount, text, place=place, name=name)

    def test_calls(self):
        for atoms in ("", " 1 2", " x y z"):
            self.assert_wrong_count(joined("fun m a", "  call m" + atoms), 2, "m")
        self.assert_read(joined("fun m a", "  call m 1"))
        self.assert_wrong_count(joined("fun m", "  call n 1 2 3 4 5", "fun n a b c d"), 2, "n")
        self.assert_read(joined("fun m", "  call n 1 2 3 4", "fun n a b c d"))

    def test_leaves(self):
        self.assert_wrong_count(joined("fun m", "  leave end 1"), 2, "end")
        for count in range(4):
            for atoms in range(6):
                text = joined("fun m", "  way w " + str(count), "  leave w" + " 1" * atoms)
                if atoms == count:
                    self.assert_read(text)
                else:
                    self.assert_wrong_count(text, 3, "w")

    def test_arms(self):
        for word in ("on", "again"):
            self.assert_wrong_count(joined("fun m", "  call m", "    " + word + " end x"), 3, "end")
            for count in range(4):
                for goals in range(6):
                    names = "".join(" " + name for name in "abcdef"[:goals])
                    text = joined("fun m", "  way w " + str(count), "  call m", "    " + word + " w" + names)
                    if goals == count:
                        self.assert_read(text)
                    else:
                        self.assert_wrong_count(text, 4, "w")

    def test_outs_tell_the_own_way(self):
        for one in range(4):
            for other in range(4):
                text = joined("fun m", f"  way w {one}", "  call n", "    out v w", "fun n", f"  way v {other}")
                if one == other:
                    self.assert_read(text)
                else:
                    self.assert_wrong_count(text, 4, "w")
        self.assert_wrong_count(joined("fun m", "  way w 1", "  call m", "    out w end"), 4, "end")
        self.assert_wrong_count(joined("fun m", "  way w 1", "  call m", "    out end w"), 4, "w")


class OrderTest(ReaderTest):
    def test_of_several_functions_of_one_name_the_first_is_meant(self):
        first_has_none = ["fun m", "  call n 1", "fun n", "fun n a"]
        self.assert_refused(WrongCount, joined(*first_has_none), place=2, name="n")
        first_has_one = ["fun m", "  call n 1", "fun n a", "fun n"]
        self.assert_refused(Doubled, joined(*first_has_one), place=4, name="n")
        second_has_way = ["fun m", "  call n", "    on w", "fun n", "fun n", "  way w 0"]
        self.assert_refused(Unknown, joined(*second_has_way), place=3, name="w")
        first_has_way = ["fun m", "  call n", "    on w", "fun n", "  way w 0", "fun n"]
        self.assert_refused(Doubled, joined(*first_has_way), place=6, name="n")

    def test_the_first_line_is_told(self):
        self.assert_refused(WrongCount, joined("fun m", "  leave end 1", "  leave w", "fun m"), place=2, name="end")
        self.assert_refused(Unknown, joined("fun m", "  leave w", "  leave end 1", "fun m"), place=2, name="w")
        self.assert_refused(Doubled, joined("fun m", "fun m", "  leave w"), place=2, name="m")
        self.assert_refused(Doubled, joined("fun m a a", "  way w 0", "  way w 0"), place=1, name="a")
        text = joined("fun m", "  call m 1", "    on w", "      leave v")
        self.assert_refused(WrongCount, text, place=2, name="m")
        text = joined("fun m", "  call m", "    on end", "      leave v", "    on w")
        self.assert_refused(Unknown, text, place=4, name="v")
        text = joined("fun m", "  if 0 = 0", "    leave end 1", "  else", "    leave w")
        self.assert_refused(WrongCount, text, place=3, name="end")

    def test_lines_by_themselves_are_told_first_over_the_whole_text(self):
        spoilt = [
            ["fun m", "fun m"], ["fun m a a"], ["fun m", "  way w 0", "  way w 0"],
            ["fun m", "  call m", "    on end", "    on end"], ["fun m", "  call m", "    on end x x"],
            ["fun m", "  call n"], ["fun m", "  leave w"], ["fun m", "  call m", "    on w"],
            ["fun m", "  call m", "    out end w"], ["fun m", "  call m 1"], ["fun m", "  leave end 1"],
            ["fun m", "  call m", "    again end x"], ["fun m", "  way w 1", "  call m", "    out w end"],
        ]
        for lines in spoilt:
            self.assertIn(refusal(joined(*lines))[0], ("Doubled", "Unknown", "WrongCount"))
            place = len(lines) + 1
            self.assert_no_program(joined(*lines, "fun k", "  say"), place + 1)
            self.assert_no_program(joined(*lines, ""), place)
            self.assert_no_program(joined(*lines, "fun k", "  stretch"), place + 2)
            self.assert_refused(TooMuch, joined(*lines, "fun k a b c d e"), place=place)
            ways = ["  way " + name + " 0" for name in "abcdefghi"]
            self.assert_refused(TooMuch, joined(*lines, "fun k", *ways), place=place + 9)
            self.assert_refused(TooMuch, joined(*lines, "fun k", *["  say 1"] * 400), place=401)

    def test_a_refusal_changes_nothing(self):
        text = joined("fun m", "  leave w")
        self.assertEqual(refusal(text), refusal(text))
        self.assert_read("fun m")
        self.assertEqual(refusal(text), ("Unknown", 2, "w"))


class MadeTextsTest(ReaderTest):
    """Texts by the hundred, held against the rules told a second time."""

    def test_texts_that_are_programs(self):
        for seed in range(200, 350):
            self.assert_read(made_text(seed))

    def test_texts_with_spoilt_lines_and_names(self):
        refused = {}
        for seed in range(500):
            for text in (spoilt_text(seed), misnamed_text(seed)):
                told = refusal(text)
                self.assertEqual(told, verdict(text), text)
                if told is None:
                    self.assert_read(text)
                else:
                    refused[told[0]] = refused.get(told[0], 0) + 1
        self.assertEqual(sorted(refused), ["Doubled", "NoProgram", "Unknown", "WrongCount"])

    def test_parts_of_a_text(self):
        lines = made_text(17).split("\n")
        for count in range(1, len(lines) + 1):
            text = joined(*lines[:count])
            self.assertEqual(refusal(text), verdict(text), text)


if __name__ == "__main__":
    unittest.main()
