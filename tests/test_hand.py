"""Tables handed on [2], [50], [51], [52]."""

import random
import unittest

from exitweave.code import Code, Handon, Jump, Label, Move, Return, Send, Summon, Tell
from exitweave.hand import handed, straight
from exitweave.lower import lowered
from exitweave.placing import placed
from exitweave.reader import read_program
from exitweave.runner import run_trees
from flat import handed_plain, plain, plain_step, stepped, straight_in
from making import made_text
from making_codes import made_code
from passing import FOUR, PassCase, is_left_of, made, read

CALLEE = """
    fun g n
      way got 1
      way no 0
      if n = 0
        leave no
      else
      if n = 1
        leave got n
      else
      n = 1 / n
"""


def piece_of(*makers, name="f"):
    return made(name, [], FOUR, *makers)


class StraightTest(unittest.TestCase):
    def assert_straight(self, piece, arm, way):
        ahead = [plain_step(step) for step in piece.steps]
        self.assertEqual(straight(piece, arm), way)
        self.assertEqual(straight_in(ahead, *arm), way)
        self.assertEqual([plain_step(step) for step in piece.steps], ahead)

    def test_a_label_over_a_return(self):
        piece = piece_of((Label, "a"), (Return, 2, ["x", "y"]))
        self.assert_straight(piece, ("a", ["x", "y"]), 2)

    def test_the_fault_way_has_the_number_nought(self):
        told = straight(piece_of((Label, "a"), (Return, 0, ["fault.0"])), ("a", ["fault.0"]))
        self.assertEqual((told, type(told)), (0, int))

    def test_other_atoms(self):
        piece = piece_of((Label, "a"), (Return, 2, ["x", "y"]))
        for goals in ([], ["x"], ["y", "x"], ["x", "y", "z"], ["x", "x"], ["g.x", "y"]):
            self.assert_straight(piece, ("a", goals), None)
        self.assert_straight(piece_of((Label, "a"), (Return, 2, ["x", 0])), ("a", ["x"]), None)
        self.assert_straight(piece_of((Label, "a"), (Return, 2, [5])), ("a", ["x"]), None)

    def test_no_atoms_and_no_goals(self):
        self.assert_straight(piece_of((Label, "a"), (Return, 1, [])), ("a", []), 1)
        self.assert_straight(piece_of((Label, "a"), (Return, 1, [])), ("a", ["x"]), None)

    def test_labels_over_labels(self):
        piece = piece_of((Label, "a"), (Label, "b"), (Label, "c"), (Return, 3, ["x"]))
        for label in "abc":
            self.assert_straight(piece, (label, ["x"]), 3)

    def test_over_jumps_ahead_and_back(self):
        piece = piece_of(
            (Label, "z"), (Return, 2, ["x"]), (Label, "a"), (Jump, "b"), (Tell, 1), (Label, "c"), (Jump, "z"),
            (Label, "b"), (Label, "d"), (Jump, "c"),
        )
        for label in "abcdz":
            self.assert_straight(piece, (label, ["x"]), 2)
            self.assert_straight(piece, (label, ["y"]), None)

    def test_another_row(self):
        others = [
            (Move, "x", 1), (Tell, 1), (Send, [], "z"), (Summon, "g", [], []), (Handon, "g", [], []),
        ]
        for other in others:
            piece = piece_of((Label, "a"), other, (Label, "z"), (Return, 2, []))
            self.assert_straight(piece, ("a", []), None)
            self.assert_straight(piece, ("z", []), 2)

    def test_the_end_of_the_rows(self):
        self.assert_straight(piece_of((Return, 1, []), (Label, "a")), ("a", []), None)
        self.assert_straight(piece_of((Return, 1, []), (Label, "a"), (Label, "b")), ("a", []), None)
        self.assert_straight(piece_of((Label, "a"), (Jump, "b"), (Return, 1, []), (Label, "b")), ("a", []), None)

    def test_round_jumps(self):
        self.assert_straight(piece_of((Label, "a"), (Jump, "a")), ("a", []), None)
        piece = piece_of((Label, "a"), (Jump, "b"), (Return, 1, []), (Label, "b"), (Jump, "a"))
        self.assert_straight(piece, ("a", []), None)
        self.assert_straight(piece, ("b", []), None)
        piece = piece_of((Label, "c"), (Jump, "a"), (Label, "a"), (Label, "d"), (Jump, "b"), (Label, "b"), (Jump, "d"))
        for label in "abcd":
            self.assert_straight(piece, (label, []), None)

    def test_one_label_come_to_twice_by_two_jumps_is_no_round(self):
        # From a one comes over b and c to the return; each jump is done once.
        piece = piece_of((Label, "a"), (Jump, "b"), (Label, "c"), (Return, 2, []), (Label, "b"), (Jump, "c"))
        self.assert_straight(piece, ("a", []), 2)

    def test_an_arm_asked_changes_nothing(self):
        goals = ["x"]
        piece = piece_of((Label, "a"), (Return, 2, ["x"]))
        self.assertEqual([straight(piece, ("a", goals)) for _ in range(3)], [2, 2, 2])
        self.assertEqual(goals, ["x"])

    def test_made_programs(self):
        for seed in range(100):
            for code in (lowered(read_program(made_text(seed))), placed(lowered(read_program(made_text(seed))))):
                for piece in code.pieces:
                    self.assert_all_labels(piece)

    def assert_all_labels(self, piece):
        steps = [plain_step(step) for step in piece.steps]
        atoms = [step["atoms"] for step in steps if step["kind"] == "Return"] + [[], ["x"]]
        labels = [step["label"] for step in steps if step["kind"] == "Label"]
        for label in labels:
            for goals in atoms:
                self.assertEqual(straight(piece, (label, goals)), straight_in(steps, label, goals))


class HandingCase(PassCase):
    def done(self, code):
        return handed(code)

    def rule(self, code):
        return handed_plain(code)


class HandedTest(HandingCase):
    def test_a_summon_that_leads_out(self):
        arms = [("f", ["fault.0"]), ("e", []), None, ("w", ["x", "y"])]
        piece = piece_of(
            (Tell, 1), (Summon, "g", ["a", 2], arms), (Label, "f"), (Return, 0, ["fault.0"]), (Label, "e"), (Jump, "d"),
            (Label, "w"), (Return, 3, ["x", "y"]), (Label, "d"), (Return, 2, []),
        )
        told = self.passed_code(Code([piece, piece_of((Return, 1, []), name="g")]))
        self.assertEqual([one["name"] for one in told], ["f", "g"])
        self.assertEqual(told[0]["steps"][1], {
            "kind": "Handon", "mark": ("f", 1), "callee": "g", "atoms": ["a", 2], "ways": [0, 2, -1, 3],
        })
        kept = [plain_step(step) for number, step in enumerate(piece.steps) if number != 1]
        self.assertEqual(told[0]["steps"][:1] + told[0]["steps"][2:], kept)
        self.assertEqual((told[0]["params"], told[0]["ways"]), ([], FOUR))

    def test_one_arm_that_leads_straight_nowhere(self):
        arms = [("f", ["fault.0"]), ("e", [])]
        for other in ((Tell, 1), (Return, 2, ["x"]), (Jump, "e")):
            piece = piece_of((Summon, "g", [], arms), (Label, "f"), (Return, 0, ["fault.0"]), (Label, "e"), other)
            code = Code([piece])
            self.assertEqual(self.passed_code(code), plain(code))

    def test_goals_in_another_order(self):
        for goals, kind in ((["x", "y"], "Handon"), (["y", "x"], "Summon")):
            piece = piece_of((Summon, "g", [], [None, ("w", goals)]), (Label, "w"), (Return, 2, ["x", "y"]))
            self.assertEqual(self.passed_code(Code([piece]))[0]["steps"][0]["kind"], kind)

    def test_no_arms_but_none(self):
        piece = piece_of((Summon, "g", ["a"], [None, None, None]))
        told = self.passed_code(Code([piece]))
        self.assertEqual(told[0]["steps"], [
            {"kind": "Handon", "mark": ("f", 0), "callee": "g", "atoms": ["a"], "ways": [-1, -1, -1]},
        ])

    def test_several_ways_of_the_callee_to_one_way(self):
        piece = piece_of((Summon, "g", [], [("l", []), ("l", []), ("m", [])]), (Label, "m"), (Label, "l"), (Return, 1, []))
        self.assertEqual(self.passed_code(Code([piece]))[0]["steps"][0]["ways"], [1, 1, 1])

    def test_several_summons_of_one_piece_and_of_others(self):
        arms = [("r", [])]
        first = piece_of((Summon, "f", [], arms), (Label, "r"), (Return, 1, []), (Summon, "g", [], arms))
        second = piece_of((Summon, "f", [], arms), (Label, "r"), (Return, 3, []), name="g")
        told = self.passed_code(Code([first, second]))
        self.assertEqual([step["kind"] for step in told[0]["steps"]], ["Handon", "Label", "Return", "Handon"])
        self.assertEqual([step.get("ways") for step in told[1]["steps"]], [[3], None, None])

    def test_handons_that_are_there_stay(self):
        piece = piece_of((Handon, "g", ["a"], [0, -1, 2]))
        code = Code([piece])
        self.assertEqual(self.passed_code(code), plain(code))

    def test_made_codes(self):
        some = 0
        for seed in range(400):
            code = made_code(seed)
            some += self.passed_code(code) != plain(code)
        self.assertGreater(some, 50)

    def test_the_new_steps_lists_are_its_own(self):
        piece = piece_of((Summon, "g", ["a"], [("r", [])]), (Label, "r"), (Return, 1, []))
        code = Code([piece])
        told = handed(code)
        told.pieces[0].steps[0].atoms.append("more")
        told.pieces[0].steps.clear()
        told.pieces[0].ways.clear()
        told.pieces.clear()
        self.assertEqual(piece.steps[0].atoms, ["a"])
        self.assertEqual((len(piece.steps), piece.ways, len(code.pieces)), (3, FOUR, 1))


class HandedProgramsTest(HandingCase):
    def kinds(self, text):
        told = self.passed_code(lowered(read(text, CALLEE)))
        return [[step["kind"] for step in piece["steps"] if "callee" in step] for piece in told]

    def test_out_arms_and_arms_with_just_a_leave(self):
        text = """
            fun m a
              way w 1
              call g a
                out end end
                on got x
                  leave w x
                on no
                  leave end
              say 1
        """
        self.assertEqual(self.kinds(text)[0], ["Handon"])

    def test_an_arm_whose_leave_has_other_atoms(self):
        for atom in ("a", "1"):
            text = f"""
            fun m a
              way w 1
              call g a
                out end end
                on got x
                  leave w {atom}
                out no end
            """
            self.assertEqual(self.kinds(text)[0], ["Summon"])

    def test_an_arm_without_rows_ahead_of_the_end(self):
        text = """
            fun m a
              way w 1
              call g a
                on end
                out got w
                on no
        """
        self.assertEqual(self.kinds(text)[0], ["Handon"])

    def test_an_arm_without_rows_ahead_of_other_rows(self):
        text = """
            fun m a
              way w 1
              call g a
                on end
                out got w
                on no
              say 1
        """
        self.assertEqual(self.kinds(text)[0], ["Summon"])

    def test_an_arm_again(self):
        text = """
            fun m a
              way w 1
              call g a
                out end end
                out got w
                again no
        """
        self.assertEqual(self.kinds(text)[0], ["Summon"])

    def test_within_a_stretch(self):
        for clean in ("say 1", "a = 0"):
            text = f"""
            fun m a
              way w 1
              stretch
                call g a
                  out end end
                  out got w
                  out no end
              clean
                {clean}
            """
            self.assertEqual(self.kinds(text)[0], ["Summon"])

    def test_a_stretch_that_was_left_ahead(self):
        text = """
            fun m a
              way w 1
              stretch
              clean
                say 1
              call g a
                out end end
                out got w
                out no end
        """
        self.assertEqual(self.kinds(text)[0], ["Handon"])

    def test_calls_that_lead_out_add_no_frame(self):
        program = read("""
            fun m a
              way w 1
              if a = 0
                leave w 5
              else
              a = a - 1
              call n a
                out end end
                out v w
            fun n a
              way v 1
              call m a
                out w v
                out end end
        """)
        code = lowered(program)
        for number in (0, 1, 2, 5, 30):
            ahead = stepped(plain(code), [number], 2000)
            behind = stepped(plain(handed(code)), [number], 2000)
            self.assertEqual(ahead[:2], behind[:2])
            self.assertTrue(is_left_of(behind[2], ahead[2]))
            self.assertEqual(ahead[1], ("way", "w", (5,)))
            self.assertEqual((ahead[3], behind[3]), (1 + 2 * number, 1))

    def test_made_programs(self):
        some = 0
        for seed in range(300):
            code = lowered(read_program(made_text(seed)))
            for one in (code, placed(code), placed(handed(code))):
                some += self.passed_code(one) != plain(one)
        self.assertGreater(some, 200)

    def test_runs_of_made_programs(self):
        fewer = 0
        for seed in range(300):
            chance = random.Random(seed)
            program = read_program(made_text(seed))
            code = lowered(program)
            for fuel in (0, 1, 2, 3, 7, 40):
                numbers = [chance.choice([0, 1, 2, -1, 10 ** 39]) for _ in program.functions[0].params]
                run = run_trees(program, numbers, fuel)
                ahead = stepped(plain(code), numbers, fuel)
                behind = stepped(plain(handed(code)), numbers, fuel)
                self.assertEqual(behind[:2], (run.log, run.last))
                self.assertTrue(is_left_of(behind[2], ahead[2]))
                self.assertLessEqual(behind[3], ahead[3])
                fewer += behind[3] < ahead[3]
        self.assertGreater(fewer, 100)


if __name__ == "__main__":
    unittest.main()
