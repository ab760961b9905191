"""Rows, arms, functions, programs: fields, blocks, lines, ways, walks [2], [4], [5], [12], [14] to [16]."""

import unittest

from examples import TEXT, told_program
from exitweave import trees
from exitweave.trees import (
    Again, Arm, Call, Copy, Function, If, Leave, On, Out, Program, Reckon, Row, Say, Stretch, walk_rows,
)


class TreesTest(unittest.TestCase):
    def assert_fields(self, made, **fields):
        for field, awaited in fields.items():
            self.assertEqual(getattr(made, field), awaited, field)

    def assert_lines(self, made, awaited):
        for depth in (0, 1, 2, 5, 14, 20):
            self.assertEqual(made.lines(depth), ["  " * depth + line for line in awaited])

    def assert_told_anew(self, tell):
        """What tell() tells is a new list each time, which the asker may change."""
        first = tell()
        before = list(first)
        second = tell()
        self.assertIsNot(first, second)
        first.append("more")
        first.reverse()
        self.assertEqual(second, before)
        self.assertEqual(tell(), before)


class PlainRowsTest(TreesTest):
    def test_copy(self):
        self.assert_fields(Copy(3, "x", "y"), place=3, goal="x", atom="y")
        self.assert_lines(Copy(3, "x", "y"), ["x = y"])
        self.assert_lines(Copy(3, "x", 0), ["x = 0"])
        self.assert_lines(Copy(3, "x", -12), ["x = -12"])
        self.assert_lines(Copy(3, "longname", 999999999999), ["longname = 999999999999"])

    def test_reckon(self):
        for op in ("+", "-", "*", "/"):
            row = Reckon(9, "z", op, "x", -3)
            self.assert_fields(row, place=9, goal="z", op=op, one="x", other=-3)
            self.assert_lines(row, ["z = x " + op + " -3"])
        self.assert_lines(Reckon(9, "z", "-", 4, "y"), ["z = 4 - y"])

    def test_say(self):
        self.assert_fields(Say(2, "a"), place=2, atom="a")
        self.assert_lines(Say(2, "a"), ["say a"])
        self.assert_lines(Say(2, -1), ["say -1"])

    def test_leave(self):
        self.assert_fields(Leave(5, "good", ["a", 0, -1]), place=5, way="good", atoms=["a", 0, -1])
        self.assert_lines(Leave(5, "good", ["a", 0, -1]), ["leave good a 0 -1"])
        self.assert_lines(Leave(5, "end", []), ["leave end"])

    def test_they_have_no_blocks(self):
        for row in (Copy(1, "x", 0), Reckon(1, "x", "+", 1, 2), Say(1, 0), Leave(1, "end", [])):
            self.assertEqual(row.blocks(), [])
            self.assert_told_anew(row.blocks)


class RowsWithBlocksTest(TreesTest):
    def test_if(self):
        one, two, three = Say(5, 1), Say(6, 2), Say(8, 3)
        row = If(4, "<", "x", 10, [one, two], [three])
        self.assert_fields(row, place=4, sign="<", one="x", other=10, then=[one, two], orelse=[three])
        self.assertEqual(row.blocks(), [(4, 0, [one, two]), (4, 1, [three])])
        self.assert_lines(row, ["if x < 10", "  say 1", "  say 2", "else", "  say 3"])

    def test_if_without_rows(self):
        row = If(4, "=", 0, "y", [], [])
        self.assertEqual(row.blocks(), [(4, 0, []), (4, 1, [])])
        self.assert_lines(row, ["if 0 = y", "else"])
        self.assert_lines(If(4, "=", 0, "y", [], [Say(6, 1)]), ["if 0 = y", "else", "  say 1"])
        self.assert_lines(If(4, "=", 0, "y", [Say(5, 1)], []), ["if 0 = y", "  say 1", "else"])

    def test_stretch(self):
        one, two, three = Say(5, 1), Copy(7, "x", 2), Say(8, "x")
        row = Stretch(4, [one], 6, [two, three])
        self.assert_fields(row, place=4, rows=[one], clean_place=6, clean=[two, three])
        self.assertEqual(row.blocks(), [(4, 0, [one])])
        self.assert_lines(row, ["stretch", "  say 1", "clean", "  x = 2", "  say x"])

    def test_stretch_without_rows(self):
        self.assertEqual(Stretch(4, [], 5, []).blocks(), [(4, 0, [])])
        self.assert_lines(Stretch(4, [], 5, []), ["stretch", "clean"])
        self.assert_lines(Stretch(4, [], 5, [Say(6, 0)]), ["stretch", "clean", "  say 0"])
        self.assert_lines(Stretch(4, [Say(5, 0)], 6, []), ["stretch", "  say 0", "clean"])

    def test_call(self):
        say = Say(6, "p")
        arms = [On(5, "got", ["p"], [say]), Out(7, "end", "bad"), On(8, "none", [], []), Again(9, "more", ["x"])]
        row = Call(4, "help", ["x", -2], arms)
        self.assert_fields(row, place=4, callee="help", atoms=["x", -2], arms=arms)
        self.assertEqual(row.blocks(), [(5, 0, [say]), (8, 0, [])])
        awaited = ["call help x -2", "  on got p", "    say p", "  out end bad", "  on none", "  again more x"]
        self.assert_lines(row, awaited)

    def test_the_blocks_of_a_call_stand_in_the_order_of_its_arms(self):
        row = Call(4, "help", [], [On(9, "end", [], []), Again(7, "b", []), On(5, "a", [], [])])
        self.assertEqual(row.blocks(), [(9, 0, []), (5, 0, [])])

    def test_call_without_arms_or_atoms(self):
        self.assert_fields(Call(4, "f", [], []), place=4, callee="f", atoms=[], arms=[])
        self.assertEqual(Call(4, "f", [], []).blocks(), [])
        self.assertEqual(Call(4, "f", [], [Out(5, "end", "end"), Again(6, "a", [])]).blocks(), [])
        self.assert_lines(Call(4, "f", [], []), ["call f"])

    def test_a_block_is_a_tuple(self):
        rows = [If(1, "=", 0, 0, [], []), Stretch(1, [], 2, []), Call(1, "f", [], [On(2, "end", [], [])])]
        for row in rows:
            for block in row.blocks():
                self.assertIs(type(block), tuple)
                self.assertIs(type(block[2]), list)

    def test_the_lists_told_are_new_ones(self):
        program = told_program()
        for function in program.functions:
            for row in walk_rows(function.rows):
                self.assert_told_anew(row.blocks)
                self.assert_told_anew(lambda row=row: row.lines(3))
        self.assertEqual(program.text(), TEXT)


class ArmsTest(TreesTest):
    def test_on(self):
        say = Say(6, "p")
        self.assert_fields(On(5, "got", ["p", "q"], [say]), place=5, way="got", goals=["p", "q"], rows=[say])
        self.assert_lines(On(5, "got", ["p", "q"], [say]), ["on got p q", "  say p"])
        self.assert_lines(On(5, "end", [], []), ["on end"])

    def test_out(self):
        self.assert_fields(Out(5, "got", "good"), place=5, way="got", own="good")
        self.assert_lines(Out(5, "got", "good"), ["out got good"])
        self.assert_lines(Out(5, "end", "end"), ["out end end"])

    def test_again(self):
        self.assert_fields(Again(5, "more", ["p", "q", "r"]), place=5, way="more", goals=["p", "q", "r"])
        self.assert_lines(Again(5, "more", ["p", "q", "r"]), ["again more p q r"])
        self.assert_lines(Again(5, "end", []), ["again end"])

    def test_the_lists_told_are_new_ones(self):
        for arm in (On(5, "end", [], [Say(6, 0)]), Out(5, "end", "end"), Again(5, "end", [])):
            self.assert_told_anew(lambda arm=arm: arm.lines(2))


class KindsTest(unittest.TestCase):
    def test_rows_stand_straight_under_row(self):
        for word in ("Copy", "Reckon", "Say", "Leave", "If", "Stretch", "Call"):
            self.assertEqual(getattr(trees, word).__bases__, (Row,))

    def test_arms_stand_straight_under_arm(self):
        for word in ("On", "Out", "Again"):
            self.assertEqual(getattr(trees, word).__bases__, (Arm,))

    def test_arguments_are_called_as_the_fields(self):
        made = [
            Copy(place=1, goal="x", atom=0),
            Reckon(place=1, goal="x", op="+", one=1, other=2),
            Say(place=1, atom=0),
            Leave(place=1, way="end", atoms=[]),
            If(place=1, sign="<", one=1, other=2, then=[], orelse=[]),
            Stretch(place=1, rows=[], clean_place=2, clean=[]),
            Call(place=1, callee="f", atoms=[], arms=[]),
            On(place=1, way="end", goals=[], rows=[]),
            Out(place=1, way="end", own="end"),
            Again(place=1, way="end", goals=[]),
            Function(place=1, name="f", params=[], ways=[], rows=[]),
        ]
        self.assertEqual([thing.place for thing in made], [1] * len(made))
        self.assertEqual(Program(functions=made[-1:]).functions, made[-1:])


class FunctionTest(TreesTest):
    def setUp(self):
        self.several = Function(1, "f", ["a"], [("good", 3), ("bad", 0), ("more", 1)], [])
        self.bare = Function(1, "f", [], [], [])

    def test_fields(self):
        say = Say(4, 0)
        function = Function(2, "f", ["a", "b"], [("good", 3), ("bad", 0)], [say])
        ways = [("good", 3), ("bad", 0)]
        self.assert_fields(function, place=2, name="f", params=["a", "b"], ways=ways, rows=[say])
        self.assert_fields(self.bare, place=1, name="f", params=[], ways=[], rows=[])

    def test_count_of_declared_ways(self):
        self.assertEqual([self.several.count_of(way) for way in ("good", "bad", "more")], [3, 0, 1])

    def test_count_of_end_and_fault(self):
        for function in (self.several, self.bare):
            self.assertEqual(function.count_of("end"), 0)
            self.assertEqual(function.count_of("fault"), 1)

    def test_count_of_ways_that_are_not_there(self):
        for way in ("goo", "goods", "Good", "f", "a", "", "way", "faults", "0", None, 0, 3, ("good", 3), ["good"]):
            self.assertIsNone(self.several.count_of(way))
        self.assertIsNone(self.bare.count_of("good"))

    def test_a_variable_or_function_of_the_name_is_no_way(self):
        function = Function(1, "same", ["same"], [("other", 2)], [Copy(3, "same", 1)])
        self.assertIsNone(function.count_of("same"))
        named = Function(1, "same", ["same"], [("same", 2)], [Copy(3, "same", 1)])
        self.assertEqual(named.count_of("same"), 2)

    def test_all_ways_in_order(self):
        self.assertEqual(self.several.all_ways(), ["fault", "end", "good", "bad", "more"])
        self.assertEqual(self.bare.all_ways(), ["fault", "end"])
        falling = Function(1, "f", [], [("z", 0), ("m", 1), ("a", 2)], [])
        self.assertEqual(falling.all_ways(), ["fault", "end", "z", "m", "a"])

    def test_the_list_of_ways_is_a_new_one(self):
        self.assert_told_anew(self.several.all_ways)
        self.assert_told_anew(self.bare.all_ways)
        self.assertEqual(self.several.ways, [("good", 3), ("bad", 0), ("more", 1)])


class ProgramTest(TreesTest):
    def test_a_text_with_all_kinds_of_rows_and_arms(self):
        self.assertEqual(told_program().text(), TEXT)

    def test_the_places_are_the_numbers_of_the_lines(self):
        lines = TEXT.split("\n")
        for function in told_program().functions:
            self.assertEqual(lines[function.place - 1].split(" ")[:2], ["fun", function.name])
            for row in walk_rows(function.rows):
                self.assertEqual(lines[row.place - 1].strip(), row.lines(0)[0])
                if isinstance(row, Stretch):
                    self.assertEqual(lines[row.clean_place - 1].strip(), "clean")
                if isinstance(row, Call):
                    for arm in row.arms:
                        self.assertEqual(lines[arm.place - 1].strip(), arm.lines(0)[0])

    def test_small_texts(self):
        self.assertEqual(Program([Function(1, "main", [], [], [])]).text(), "fun main")
        self.assertEqual(Program([Function(1, "m", ["a", "b"], [], [])]).text(), "fun m a b")
        self.assertEqual(Program([Function(1, "m", [], [("w", 0)], [])]).text(), "fun m\n  way w 0")
        two = [Function(1, "m", [], [], [Say(2, 0)]), Function(3, "n", [], [], [])]
        self.assertEqual(Program(two).text(), "fun m\n  say 0\nfun n")

    def test_a_text_as_deep_as_it_may_be(self):
        row = Say(14, 0)
        for place in range(13, 1, -1):
            row = Stretch(place, [row], 28 - place, [])
        lines = Program([Function(1, "m", [], [], [row])]).text().split("\n")
        self.assertEqual(lines[12:15], ["  " * 12 + "stretch", "  " * 13 + "say 0", "  " * 12 + "clean"])
        self.assertEqual(len(lines), 26)

    def test_the_same_text_each_time(self):
        program = told_program()
        self.assertEqual(program.text(), program.text())

    def test_function_by_its_name(self):
        program = told_program()
        for function in program.functions:
            self.assertIs(program.function(function.name), function)
        self.assertEqual([function.name for function in program.functions], ["main", "empty", "help"])

    def test_function_by_a_name_that_is_not_there(self):
        for name in ("mai", "mains", "Main", "x", "good", "a", "", "fun", None, 0, 1, ["main"]):
            self.assertIsNone(told_program().function(name))

    def test_of_several_functions_of_one_name_the_first_one_is_told(self):
        first, second = Function(1, "f", [], [], []), Function(2, "f", ["a"], [], [])
        self.assertIs(Program([first, second]).function("f"), first)
        self.assertIs(Program([second, first]).function("f"), second)


class WalkTest(TreesTest):
    def places(self, rows):
        return [row.place for row in walk_rows(rows)]

    def test_plain_rows_and_none(self):
        self.assertEqual(walk_rows([]), [])
        rows = [Say(2, 0), Copy(3, "x", 1), Leave(4, "end", [])]
        self.assertEqual(walk_rows(rows), rows)

    def test_ifs(self):
        inner = If(4, "<", 0, 1, [Say(5, 1)], [Say(7, 2)])
        rows = [Say(2, 0), If(3, "=", 0, 0, [inner], [Say(9, 3)]), Say(10, 4)]
        self.assertEqual(self.places(rows), [2, 3, 4, 5, 7, 9, 10])

    def test_stretches_with_clean_up_rows(self):
        inner = Stretch(3, [Say(4, 1)], 5, [Say(6, 2)])
        rows = [Stretch(2, [inner, Say(7, 3)], 8, [Say(9, 4), Copy(10, "x", 0)]), Say(11, 0)]
        self.assertEqual(self.places(rows), [2, 3, 4, 6, 7, 9, 10, 11])

    def test_calls_with_arms(self):
        within = Call(5, "g", [], [On(6, "end", [], [Say(7, 1)])])
        arms = [On(3, "a", [], [Say(4, 0), within]), Out(8, "b", "end"), On(9, "c", [], []), On(10, "d", [], [Say(11, 2)])]
        rows = [Call(2, "f", [], arms), Say(12, 3)]
        self.assertEqual(self.places(rows), [2, 4, 5, 7, 11, 12])

    def test_all_kinds_within_one_another(self):
        main, empty, helping = told_program().functions
        self.assertEqual(self.places(main.rows), [4, 5, 6, 7, 8, 10, 11, 12, 15, 19, 20, 22, 24, 25])
        self.assertEqual(self.places(empty.rows), [])
        self.assertEqual(self.places(helping.rows), [31, 33, 34])

    def test_the_order_is_that_of_the_lines_not_of_numbers(self):
        rows = [Stretch(9, [Say(8, 0)], 7, [Say(6, 0)]), If(5, "=", 0, 0, [Say(4, 0)], [Say(3, 0)]), Say(2, 0)]
        self.assertEqual(self.places(rows), [9, 8, 6, 5, 4, 3, 2])

    def test_the_rows_told_are_the_rows_themselves(self):
        say, row = Say(3, 0), Say(5, 1)
        stretch = Stretch(2, [say], 4, [row])
        for told, awaited in zip(walk_rows([stretch]), [stretch, say, row], strict=True):
            self.assertIs(told, awaited)

    def test_the_list_told_is_a_new_one(self):
        rows = [Say(2, 0), Stretch(3, [Say(4, 1)], 5, [])]
        before = list(rows)
        self.assertIsNot(walk_rows(rows), rows)
        self.assert_told_anew(lambda: walk_rows(rows))
        self.assert_told_anew(lambda: walk_rows([]))
        self.assertEqual(rows, before)
        self.assertEqual(len(rows[1].rows), 1)


class HandedInTest(unittest.TestCase):
    """Lists that are handed in stay as they are, and may be changed behind."""

    def assert_kept(self, make, **lists):
        before = {field: list(given) for field, given in lists.items()}
        made = make(lists)
        for field, given in lists.items():
            with self.subTest(type(made).__name__, field=field):
                self.assertEqual(given, before[field])
                given.append("more")
                self.assertEqual(getattr(made, field), before[field])
                given.clear()
                self.assertEqual(getattr(made, field), before[field])
                self.assertIs(type(getattr(made, field)), list)

    def test_rows(self):
        self.assert_kept(lambda given: Leave(1, "w", given["atoms"]), atoms=["a", 1])
        self.assert_kept(
            lambda given: If(1, "<", 0, 1, given["then"], given["orelse"]), then=[Say(2, 0)], orelse=[Say(4, 0)],
        )
        self.assert_kept(
            lambda given: Stretch(1, given["rows"], 3, given["clean"]), rows=[Say(2, 0)], clean=[Say(4, 0)],
        )
        self.assert_kept(
            lambda given: Call(1, "f", given["atoms"], given["arms"]), atoms=["a", 1], arms=[Out(2, "a", "end")],
        )

    def test_arms(self):
        self.assert_kept(lambda given: On(1, "w", given["goals"], given["rows"]), goals=["a"], rows=[Say(2, 0)])
        self.assert_kept(lambda given: Again(1, "w", given["goals"]), goals=["a"])

    def test_functions_and_programs(self):
        self.assert_kept(
            lambda given: Function(1, "f", given["params"], given["ways"], given["rows"]),
            params=["a"], ways=[("good", 2)], rows=[Say(3, 0)],
        )
        self.assert_kept(lambda given: Program(given["functions"]), functions=[Function(1, "f", [], [], [])])

    def test_what_is_told_stays_as_it_was(self):
        rows, arms, ways, params, clean = [Say(6, 0)], [], [("w", 1)], ["a"], [Say(8, 1)]
        arms.append(On(5, "end", [], rows))
        body = [Stretch(3, [Call(4, "f", params, arms)], 7, clean)]
        functions = [Function(1, "f", params, ways, body)]
        program = Program(functions)
        before = program.text()
        for given in (rows, arms, ways, params, clean, body, functions):
            given.clear()
        self.assertEqual(program.text(), before)
        function = program.function("f")
        self.assertEqual(function.all_ways(), ["fault", "end", "w"])
        self.assertEqual(function.count_of("w"), 1)
        self.assertEqual([row.place for row in walk_rows(function.rows)], [3, 4, 6, 8])

    def test_asking_changes_nothing(self):
        program = told_program()
        for function in program.functions:
            function.all_ways().append("more")
            function.count_of("end")
            walked = walk_rows(function.rows)
            for row in walked:
                row.blocks().append((0, 0, []))
                row.lines(0).append("more")
            walked.clear()
        program.function("main")
        self.assertEqual(program.text(), TEXT)


if __name__ == "__main__":
    unittest.main()
