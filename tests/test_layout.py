"""Codes laid out, and texts of layouts [2], [71], [72], [73]."""

import unittest

from exitweave.code import Code, Compute, Enter, Handon, Jump, Label, Move, Return, Send, Summon, Tell, Test
from exitweave.errors import NoCode
from exitweave.layout import Layout, laid, read_layout
from exitweave.reader import read_program
from exitweave.weave import woven
from flat import laid_lines, plain, plain_step
from layouts import layout_verdict, spoilt_layout
from making import made_text
from making_codes import made_code
from passing import FOUR, TWO, made, read, told_steps

EVERY_ROW_OF_PASSES = [
    [], ["hand"], ["place"], ["thread"], ["drop"], ["thread", "drop"], ["hand", "place"], ["place", "hand", "thread", "drop"],
    ["hand", "place", "hand", "thread", "drop", "place", "hand", "drop"],
]

LINES = """\
piece f 0 2 a b 3 fault end w
piece g 6 1 x 2 fault end
move f 0 a -5
compute f 1 b / a b 5
summon f 2 g 1 b 2 5 1 fault.0 -
enter f 3 2 g.x a g.w.0 1 2 g.z fault.1
return f 4 2 1 b
return f 5 0 1 fault.0
test g 0 < x 3 8
send g 1 2 x -4 y x 6
tell g 2 x
handon g 3 f 2 x 1 3 0 -1 1
jump g 4 6""".split("\n")


def shown(layout):
    return ([plain_step(row) for row in layout.rows], layout.entries)


class LaidTest(unittest.TestCase):
    def test_rows_and_entries(self):
        code = Code([
            made(
                "f", ["a"], FOUR, (Label, "top"), (Label, "two"), (Test, "<", "a", 3, "out"), (Compute, "a", "+", "a", 1, "trap"),
                (Summon, "g", [], [("trap", ["fault.0"]), None]), (Label, "on"), (Jump, "two"), (Label, "out"),
                (Send, [("a", 1)], "top"), (Label, "trap"), (Return, 0, ["fault.0"]),
            ),
            made("g", [], TWO, (Label, "top"), (Move, "x", 1), (Tell, "x"), (Enter, [], ["y"]), (Jump, "top")),
            made("h", ["p", "q"], TWO, (Handon, "f", ["q"], [0, 1, -1, 1])),
        ])
        ahead = plain(code)
        layout = laid(code)
        self.assertIs(type(layout), Layout)
        self.assertEqual(layout.entries, [("f", 0, ["a"], FOUR), ("g", 6, [], TWO), ("h", 10, ["p", "q"], TWO)])
        self.assertEqual([plain_step(row) for row in layout.rows], told_steps(
            Test(("f", 2), "<", "a", 3, 4),
            Compute(("f", 3), "a", "+", "a", 1, 5),
            Summon(("f", 4), "g", [], [(5, ["fault.0"]), None]),
            Jump(("f", 6), 0),
            Send(("f", 8), [("a", 1)], 0),
            Return(("f", 10), 0, ["fault.0"]),
            Move(("g", 1), "x", 1),
            Tell(("g", 2), "x"),
            Enter(("g", 3), [], ["y"]),
            Jump(("g", 4), 6),
            Handon(("h", 0), "f", ["q"], [0, 1, -1, 1]),
        ))
        for label in (layout.rows[0].label, layout.rows[1].trap, layout.rows[2].arms[0][0]):
            self.assertIs(type(label), int)
        for entry in layout.entries:
            self.assertEqual([type(part) for part in entry], [str, int, list, list])
        self.assertEqual(plain(code), ahead)
        self.assertEqual(shown(laid(code)), shown(layout))
        self.assertEqual(layout.text().split("\n"), laid_lines(ahead))

    def test_fields(self):
        rows = [Return(("f", 0), 1, [])]
        entries = [("f", 0, ["a"], ["fault", "end"])]
        layout = Layout(rows=rows, entries=entries)
        self.assertEqual((layout.rows, layout.entries), (rows, entries))

    def test_lists_handed_in_or_told_and_changed_behind(self):
        params, ways = ["a"], ["fault", "end"]
        rows, entries = [Return(("f", 0), 1, [])], [("f", 0, params, ways)]
        layout = Layout(rows, entries)
        for handed in (params, ways, rows, entries):
            handed.clear()
        self.assertEqual(layout.text(), "piece f 0 1 a 2 fault end\nreturn f 0 1 0")
        code = Code([made("f", ["a"], TWO, (Return, 1, []))])
        told = laid(code)
        told.entries[0][2].clear()
        told.entries[0][3].clear()
        told.rows.clear()
        self.assertEqual(laid(code).text(), "piece f 0 1 a 2 fault end\nreturn f 0 1 0")
        self.assertEqual((code.pieces[0].params, code.pieces[0].ways), (["a"], TWO))

    def test_a_program_by_hand(self):
        program = read("""
            fun m a
              call g a
                on end
                  say a
            fun g b
              b = 1 / b
        """)
        layout = laid(woven(program, ["thread", "drop"]))
        rows = {row.mark: number for number, row in enumerate(layout.rows)}
        self.assertEqual(len(rows), len(layout.rows))
        self.assertEqual([entry[0] for entry in layout.entries], ["m", "g"])
        self.assertEqual(layout.entries[1][1], len([row for row in layout.rows if row.mark[0] == "m"]))

    def test_made_programs_behind_each_row_of_passes(self):
        for seed in range(60):
            program = read_program(made_text(seed))
            for words in EVERY_ROW_OF_PASSES:
                code = woven(program, words)
                layout = laid(code)
                self.assertEqual(layout.text().split("\n"), laid_lines(plain(code)))
                steps = [step.mark for piece in code.pieces for step in piece.steps if not isinstance(step, Label)]
                self.assertEqual([row.mark for row in layout.rows], steps)
                again = read_layout(layout.text())
                self.assertIs(type(again), Layout)
                self.assertEqual(shown(again), shown(layout))
                self.assertEqual(again.text(), layout.text())

    def test_made_codes(self):
        for seed in range(300):
            code = made_code(seed)
            layout = laid(code)
            self.assertEqual(layout.text().split("\n"), laid_lines(plain(code)))
            self.assertEqual(shown(read_layout(layout.text())), shown(layout))


class ReadTest(unittest.TestCase):
    def test_all_kinds_of_rows(self):
        layout = read_layout("\n".join(LINES))
        self.assertEqual(layout.entries, [("f", 0, ["a", "b"], ["fault", "end", "w"]), ("g", 6, ["x"], TWO)])
        self.assertEqual([plain_step(row) for row in layout.rows], told_steps(
            Move(("f", 0), "a", -5),
            Compute(("f", 1), "b", "/", "a", "b", 5),
            Summon(("f", 2), "g", ["b"], [(5, ["fault.0"]), None]),
            Enter(("f", 3), [("g.x", "a"), ("g.w.0", 1)], ["g.z", "fault.1"]),
            Return(("f", 4), 2, ["b"]),
            Return(("f", 5), 0, ["fault.0"]),
            Test(("g", 0), "<", "x", 3, 8),
            Send(("g", 1), [("x", -4), ("y", "x")], 6),
            Tell(("g", 2), "x"),
            Handon(("g", 3), "f", ["x", 1], [0, -1, 1]),
            Jump(("g", 4), 6),
        ))
        self.assertEqual(layout.text(), "\n".join(LINES))
        self.assertIsNone(layout_verdict("\n".join(LINES)))

    def test_every_list_told_is_a_new_one(self):
        text = "\n".join(LINES)
        told = read_layout(text)
        told.rows.clear()
        told.entries[0][2].clear()
        self.assertEqual(read_layout(text).text(), text)


class RefusedTest(unittest.TestCase):
    def assert_place(self, lines, place):
        """The text of the lines is refused at the place, read where that is None."""
        text = "\n".join(lines)
        self.assertEqual(layout_verdict(text), place, text)
        if place is None:
            self.assertEqual(read_layout(text).text(), text)
            return
        with self.assertRaises(NoCode, msg=text) as caught:
            read_layout(text)
        self.assertEqual(caught.exception.place, place, text)

    def assert_changed(self, place, line, refused=True):
        """The lines with another one at the place are refused there."""
        self.assert_place(LINES[:place - 1] + [line] + LINES[place:], place if refused else None)

    def assert_taken(self, place, line):
        self.assert_changed(place, line, refused=False)

    def test_what_is_no_text(self):
        for thing in (None, 0, 7, True, b"piece", ["piece f 0 0 2 fault end"], ("x",), {}, Layout([], [])):
            with self.assertRaises(NoCode) as caught:
                read_layout(thing)
            self.assertEqual(caught.exception.place, 0)

    def test_a_text_without_signs(self):
        self.assert_place([""], 1)
        self.assert_place(["", ""], 1)
        self.assert_place([" "], 1)

    def test_a_word_too_many_or_too_few_on_each_line(self):
        for place, line in enumerate(LINES, 1):
            words = line.split(" ")
            for more in ("x", "0", "-", "fault"):
                self.assert_changed(place, line + " " + more)
            for spot in range(len(words)):
                self.assert_changed(place, " ".join(words[:spot] + words[spot + 1:]))
            for length in range(1, len(words)):
                self.assert_changed(place, " ".join(words[:length]))

    def test_empty_lines_and_blanks(self):
        for place, line in enumerate(LINES, 1):
            self.assert_changed(place, "")
            for changed in (line + " ", " " + line, line.replace(" ", "  ", 1), line.replace(" ", "\t", 1)):
                self.assert_changed(place, changed)
        self.assert_place(LINES + [""], 14)
        self.assert_place(["", *LINES], 1)
        self.assert_place(LINES[:1] + [""] + LINES[1:], 2)
        self.assert_place(LINES[:2] + [""] + LINES[2:], 3)

    def test_words_that_begin_no_line(self):
        for place in range(3, 14):
            rest = LINES[place - 1].split(" ", 1)[1]
            for word in ("label", "Move", "moves", "x", "0", "fun", "call", ""):
                self.assert_changed(place, f"{word} {rest}")
                self.assert_changed(place, f"{word} f {place + 90}")

    def test_numbers(self):
        forms = [
            (1, "piece f {} 2 a b 3 fault end w"), (2, "piece g {} 1 x 2 fault end"), (2, "piece g 6 {} x 2 fault end"),
            (2, "piece g 6 1 x {} fault end"), (3, "move f {} a 1"), (4, "compute f 1 b / a b {}"),
            (5, "summon f 2 g {} b 2 5 1 fault.0 -"), (5, "summon f 2 g 1 b {} 5 1 fault.0 -"),
            (5, "summon f 2 g 1 b 2 {} 1 fault.0 -"), (5, "summon f 2 g 1 b 2 5 {} fault.0 -"),
            (6, "enter f 3 {} g.x a 0"), (6, "enter f 3 0 {} g.x"), (7, "return f 4 {} 1 b"), (7, "return f 4 2 {} b"),
            (9, "test g 0 < x 3 {}"), (10, "send g 1 {} x -4 6"), (10, "send g 1 1 x -4 {}"),
            (12, "handon g 3 f {} x 1 3 0 -1 1"), (12, "handon g 3 f 2 x 1 {} 0 -1 1"), (12, "handon g 3 f 2 x 1 3 {} -1 1"),
            (13, "jump g 4 {}"),
        ]
        for place, form in forms:
            for word in ("00", "01", "06", "-2", "-0", "1000000000000", "0000000000001", "x", "+1", "1.0", "", "-", "1e1"):
                self.assert_changed(place, form.format(word))
            if (place, form) != (12, "handon g 3 f 2 x 1 3 {} -1 1"):
                self.assert_changed(place, form.format("-1"))

    def test_marks(self):
        self.assert_taken(3, "move f 999999999999 a 1")
        self.assert_changed(3, "move f 1000000000000 a 1")
        self.assert_taken(3, "move nowhere 0 a 1")
        self.assert_taken(3, "move g 9 a 1")
        for name in ("fault", "end", "f.g", "F", "ninelette", "0", "", "-"):
            self.assert_changed(3, f"move {name} 0 a 1")

    def test_a_mark_twice(self):
        self.assert_changed(4, "compute f 0 b / a b 5")
        self.assert_changed(13, "jump f 0 6")
        self.assert_changed(13, "jump g 0 6")
        self.assert_taken(13, "jump f 6 6")

    def test_the_first_line_is_a_piece(self):
        self.assert_place(LINES[2:], 1)
        self.assert_place(["pieces f 0 0 2 fault end", "return f 0 1 0"], 1)
        self.assert_place(["piece"], 1)
        self.assert_place(["piece f 0 0 2 fault end", "return f 0 1 0"], None)

    def test_a_pieces_line_behind_rows(self):
        self.assert_place(LINES[:4] + ["piece h 9 0 2 fault end"] + LINES[4:], 5)
        self.assert_place(LINES + ["piece h 12 0 2 fault end"], 14)

    def test_no_rows(self):
        self.assert_place(LINES[:1], 2)
        self.assert_place(["piece f 1 0 2 fault end"], 1)
        # The second piece's ROW is not less than the number of rows, so its own line comes first.
        self.assert_place(LINES[:2], 2)

    def test_names_of_pieces(self):
        for name in ("end", "fault", "fun", "on", "F", "ninelette", "a.b", "0", "", "x1"):
            self.assert_changed(1, f"piece {name} 0 2 a b 3 fault end w")
        self.assert_changed(2, "piece f 6 1 x 2 fault end")
        self.assert_place(["piece f 0 0 2 fault end", "piece g 1 0 2 fault end", "piece f 2 0 2 fault end"]
                          + [f"return f {number} 1 0" for number in range(3)], 3)

    def test_parameters(self):
        for params in ("2 a a", "2 a end", "2 a fault", "2 a 0", "2 a x.0", "2 A b", "2 ninelette b", "2  b"):
            self.assert_changed(1, f"piece f 0 {params} 3 fault end w")
        self.assert_changed(1, "piece f 0 5 a b c d e 3 fault end w")
        rows = ["return f 0 1 0"]
        self.assert_place(["piece f 0 4 a b c d 2 fault end"] + rows, None)
        self.assert_place(["piece f 0 5 a b c d e 2 fault end"] + rows, 1)
        self.assert_place(["piece f 0 1 f 3 fault end f"] + rows, None)

    def test_ways(self):
        rows = ["return f 0 1 0"]
        for ways in (
            "0", "1 fault", "1 end", "2 end fault", "2 fault w", "2 w end", "2 end end", "3 fault w end", "3 fault end end",
            "3 fault end fault", "4 fault end w w", "3 fault end 0", "3 fault end w.0", "3 fault end on", "3 fault end ninelette",
        ):
            self.assert_place([f"piece f 0 0 {ways}"] + rows, 1)
        eight = " ".join("abcdefgh")
        self.assert_place([f"piece f 0 0 10 fault end {eight}"] + rows, None)
        self.assert_place([f"piece f 0 0 11 fault end {eight} i"] + rows, 1)

    def test_rows_of_pieces(self):
        self.assert_changed(1, "piece f 1 2 a b 3 fault end w")
        self.assert_changed(2, "piece g 0 1 x 2 fault end")
        self.assert_changed(2, "piece g 11 1 x 2 fault end")
        self.assert_changed(2, "piece g 12 1 x 2 fault end")
        heads = ["piece f 0 0 2 fault end", "piece g 2 0 2 fault end", "piece h {} 0 2 fault end"]
        rows = [f"return f {number} 1 0" for number in range(4)]
        for number, place in ((0, 3), (1, 3), (2, 3), (3, None), (4, 3), (5, 3)):
            self.assert_place(heads[:2] + [heads[2].format(number)] + rows, place)

    def test_a_label_in_another_piece_or_nowhere(self):
        for row, taken in ((0, True), (5, True), (6, False), (10, False), (11, False)):
            self.assert_changed(4, f"compute f 1 b / a b {row}", not taken)
            self.assert_changed(5, f"summon f 2 g 1 b 2 {row} 0 -", not taken)
            self.assert_changed(5, f"summon f 2 g 1 b 2 - {row} 0", not taken)
            self.assert_changed(7, f"jump f 4 {row}", not taken)
        for row, taken in ((0, False), (5, False), (6, True), (10, True), (11, False), (999999999999, False)):
            self.assert_changed(9, f"test g 0 < x 3 {row}", not taken)
            self.assert_changed(10, f"send g 1 0 {row}", not taken)
            self.assert_changed(13, f"jump g 4 {row}", not taken)

    def test_signs(self):
        for sign in "+-*/":
            self.assert_taken(4, f"compute f 1 b {sign} a b 5")
            self.assert_changed(9, f"test g 0 {sign} x 3 8")
        for sign in "<=":
            self.assert_taken(9, f"test g 0 {sign} x 3 8")
            self.assert_changed(4, f"compute f 1 b {sign} a b 5")
        for sign in ("", ">", "==", "<=", "//", "+-", "x", "0"):
            self.assert_changed(4, f"compute f 1 b {sign} a b 5")
            self.assert_changed(9, f"test g 0 {sign} x 3 8")

    GOOD = ("x", "eightlet", "fault", "fault.0", "fault.9", "x.0", "g.x", "g.h.x.3", "fault.x", "g.1.x", "a.b.c.d.e.f")
    BAD = (
        "", ".", "x.", ".x", "x..y", "end", "end.0", "g.fault.0", "g.end", "x.10", "ninelette", "g.ninelette", "X", "0.x",
        "x.-1", "on", "g.on", "x1", "-", "x,y",
    )

    def test_goals_and_names_of_zeroed(self):
        for word in self.GOOD + self.BAD + ("0", "5", "-5"):
            refused = word not in self.GOOD
            self.assert_changed(3, f"move f 0 {word} 1", refused)
            self.assert_changed(4, f"compute f 1 {word} / a b 5", refused)
            self.assert_changed(5, f"summon f 2 g 1 b 2 5 1 {word} -", refused)
            self.assert_changed(6, f"enter f 3 1 {word} 1 0", refused)
            self.assert_changed(6, f"enter f 3 0 1 {word}", refused)
            self.assert_changed(10, f"send g 1 1 {word} 1 6", refused)

    def test_atoms(self):
        good = self.GOOD + ("0", "-5", "999999999999", "-999999999999")
        for word in good + self.BAD + ("00", "-0", "01", "1000000000000", "-1000000000000", "+1", "1.0"):
            refused = word not in good
            self.assert_changed(3, f"move f 0 a {word}", refused)
            self.assert_changed(4, f"compute f 1 b / {word} b 5", refused)
            self.assert_changed(4, f"compute f 1 b / a {word} 5", refused)
            self.assert_changed(5, f"summon f 2 g 1 {word} 2 - -", refused)
            self.assert_changed(6, f"enter f 3 1 x {word} 0", refused)
            self.assert_changed(7, f"return f 4 2 1 {word}", refused)
            self.assert_changed(9, f"test g 0 < {word} 3 8", refused)
            self.assert_changed(9, f"test g 0 < x {word} 8", refused)
            self.assert_changed(10, f"send g 1 1 x {word} 6", refused)
            self.assert_changed(11, f"tell g 2 {word}", refused)
            self.assert_changed(12, f"handon g 3 f 2 {word} 1 3 0 -1 1", refused)

    def test_a_goal_or_a_name_of_zeroed_twice(self):
        self.assert_changed(5, "summon f 2 g 1 b 2 5 2 x x -")
        self.assert_changed(5, "summon f 2 g 1 b 2 5 3 x y x -")
        self.assert_taken(5, "summon f 2 g 1 b 2 5 2 x y 5 2 x y")
        self.assert_changed(6, "enter f 3 2 x 1 x 2 0")
        self.assert_changed(6, "enter f 3 0 2 x x")
        self.assert_taken(6, "enter f 3 2 x 1 y 1 2 x y")
        self.assert_changed(10, "send g 1 2 x 1 x 1 6")
        self.assert_taken(10, "send g 1 2 x y y y 6")
        self.assert_taken(7, "return f 4 2 2 b b")

    def test_callees(self):
        for name in ("h", "fault", "end", "a", "x", "", "0", "-", "f.g"):
            self.assert_changed(5, f"summon f 2 {name} 1 b 2 5 1 fault.0 -")
            self.assert_changed(12, f"handon g 3 {name} 2 x 1 3 0 -1 1")
        self.assert_taken(5, "summon f 2 f 2 a b 3 - - -")
        self.assert_taken(12, "handon g 3 g 1 x 2 1 0")

    def test_atoms_arms_and_ways_too_many_or_too_few(self):
        self.assert_changed(5, "summon f 2 g 0 2 5 1 fault.0 -")
        self.assert_changed(5, "summon f 2 g 2 b b 2 5 1 fault.0 -")
        self.assert_changed(5, "summon f 2 g 1 b 1 5 1 fault.0")
        self.assert_changed(5, "summon f 2 g 1 b 3 5 1 fault.0 - -")
        self.assert_changed(5, "summon f 2 g 1 b 0")
        self.assert_changed(12, "handon g 3 f 1 x 3 0 -1 1")
        self.assert_changed(12, "handon g 3 f 3 x x x 3 0 -1 1")
        self.assert_changed(12, "handon g 3 f 2 x 1 2 0 -1")
        self.assert_changed(12, "handon g 3 f 2 x 1 4 0 -1 1 1")
        self.assert_taken(7, "return f 4 2 0")

    def test_counts_that_do_not_fit_their_words(self):
        self.assert_changed(6, "enter f 3 3 g.x a g.w.0 1 2 g.z g.y")
        self.assert_changed(6, "enter f 3 1 g.x a g.w.0 1 2 g.z g.y")
        self.assert_changed(10, "send g 1 3 x -4 y x 6")
        self.assert_changed(7, "return f 4 2 999999999999 b")
        self.assert_changed(1, "piece f 0 999999999999 a b 3 fault end w")

    def test_ways_that_are_too_great(self):
        for way, taken in ((0, True), (1, True), (2, True), (3, False), (999999999999, False)):
            self.assert_changed(7, f"return f 4 {way} 0", not taken)
        # The ways of a handon are those of the piece in which it stands, here g with two, not those of its callee.
        for way, taken in ((0, True), (1, True), (2, False), (3, False)):
            self.assert_changed(12, f"handon g 3 f 2 x 1 3 0 -1 {way}", not taken)

    def test_minus_one_where_it_may_stand_and_where_not(self):
        self.assert_taken(12, "handon g 3 f 2 x 1 3 -1 -1 -1")
        self.assert_taken(12, "handon g 3 f 2 -1 -1 3 0 1 -1")
        self.assert_changed(7, "return f 4 -1 1 b")
        self.assert_changed(5, "summon f 2 g 1 b 2 -1 1 fault.0 -")
        self.assert_changed(5, "summon f 2 g 1 b 2 5 1 fault.0 -1")
        self.assert_changed(12, "handon g 3 f 2 x 1 3 0 - 1")
        self.assert_changed(12, "handon g 3 f 2 x 1 3 0 -2 1")

    def test_a_row_that_leads_on_as_the_last_one_of_a_piece(self):
        on = ["move f 5 a 1", "compute f 5 a + a 1 0", "tell f 5 a", "test f 5 < a 1 0", "enter f 5 0 0"]
        off = ["jump f 5 0", "summon f 5 g 1 a 2 - -", "handon f 5 g 1 a 2 0 1", "send f 5 0 0", "return f 5 1 0"]
        for line in on:
            self.assert_changed(8, line)
            self.assert_taken(7, line.replace("f 5", "f 4"))
            self.assert_place(["piece f 0 1 a 2 fault end", line], 2)
        for line in off:
            self.assert_taken(8, line)
        for line in ("move g 4 a 1", "compute g 4 a + a 1 6", "tell g 4 a", "test g 4 < a 1 6", "enter g 4 0 0"):
            self.assert_changed(13, line)

    def test_the_first_line_at_which_something_does_not_hold(self):
        self.assert_place(["piece f 0 0 2 fault end", "tell f 0 end", "x"], 2)
        self.assert_place(["piece f 0 0 2 fault end", "tell f 0 1", "tell f 0 1", "x"], 3)
        self.assert_place(["piece f 0 0 2 fault end", "piece g 9 0 2 fault end", "x", "y"], 2)
        self.assert_place(["piece f 0 0 2 fault end", "piece g 1 0 2 fault end", "x", "y"], 3)
        # Only the last row of all leads on, and it stands on the last line; a later line's form comes behind it.
        self.assert_place(["piece f 0 0 2 fault end", "piece g 1 0 2 fault end", "tell f 0 1", "x"], 3)
        self.assert_place(["piece f 0 0 2 fault end", "jump f 0 1", "x"], 3)
        self.assert_place(["piece f 0 0 2 fault end", "jump f 0 2", "x"], 2)

    def test_spoilt_texts(self):
        taken = refused = 0
        for seed in range(150):
            text = laid(woven(read_program(made_text(seed)), EVERY_ROW_OF_PASSES[seed % 9])).text()
            for number in range(12):
                spoilt = spoilt_layout(text, seed * 100 + number)
                place = layout_verdict(spoilt)
                self.assert_place(spoilt.split("\n"), place)
                taken += place is None
                refused += place is not None
        self.assertGreater(taken, 100)
        self.assertGreater(refused, 1000)


if __name__ == "__main__":
    unittest.main()
