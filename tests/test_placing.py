"""Pieces put in place [2], [60], [61], [62], [63]."""

import random
import unittest

from exitweave.code import Code, Compute, Enter, Handon, Jump, Label, Move, Return, Send, Summon, Tell, Test
from exitweave.hand import handed
from exitweave.lower import lowered
from exitweave.placing import placed
from exitweave.reader import read_program
from exitweave.runner import run_trees
from flat import placed_plain, plain, plain_step, stepped
from making import made_text
from making_codes import made_code
from passing import FOUR, TWO, PassCase, made, read, told_steps


class PlacingCase(PassCase):
    def done(self, code):
        return placed(code)

    def rule(self, code):
        return placed_plain(code)


class MayBePlacedTest(PlacingCase):
    CALL = (Summon, "g", [], [None, ("l", [])])
    LEAVE = (Return, 1, [])

    def names(self, *pieces):
        return [piece["name"] for piece in self.passed(*pieces)]

    def test_the_first_piece_is_not_put_in_place(self):
        self.assert_stays(
            made("g", [], TWO, self.LEAVE),
            made("f", [], TWO, self.CALL, (Label, "l"), self.LEAVE),
        )

    def test_a_piece_that_nothing_calls_stays(self):
        self.assert_stays(made("f", [], TWO, self.LEAVE), made("g", [], TWO, self.LEAVE))

    def test_a_piece_that_is_called_twice_stays(self):
        twice = made("f", [], TWO, self.CALL, (Label, "l"), self.CALL)
        self.assert_stays(twice, made("g", [], TWO, self.LEAVE))
        once = made("f", [], TWO, self.CALL, (Label, "l"), self.LEAVE)
        other = made("h", [], TWO, (Handon, "g", [], [0, 1]))
        self.assert_stays(once, made("g", [], TWO, self.LEAVE), other)

    def test_a_piece_that_calls_itself_stays(self):
        self.assert_stays(made("f", [], TWO, self.LEAVE), made("g", [], TWO, (Handon, "g", [], [0, 1])))
        once = made("f", [], TWO, self.CALL, (Label, "l"), self.LEAVE)
        self.assert_stays(once, made("g", [], TWO, (Handon, "g", [], [0, 1])))
        self.assert_stays(once, made("g", [], TWO, self.CALL, (Label, "l"), self.LEAVE))

    def test_rows_that_cannot_be_come_to_count_like_all_others(self):
        host = made("f", [], TWO, self.CALL, (Label, "l"), self.LEAVE, self.CALL)
        self.assert_stays(host, made("g", [], TWO, self.LEAVE))
        host = made("f", [], TWO, self.LEAVE, self.CALL, (Label, "l"), self.LEAVE)
        self.assertEqual(self.names(host, made("g", [], TWO, self.LEAVE)), ["f"])
        unused = made("h", [], TWO, self.CALL, (Label, "l"), self.LEAVE)
        self.assertEqual(self.names(made("f", [], TWO, self.LEAVE), made("g", [], TWO, self.LEAVE), unused), ["f", "h"])

    def test_pieces_that_call_one_another(self):
        # g goes into h; then h calls itself, and stays.
        first = made("f", [], TWO, self.LEAVE)
        one = made("g", [], TWO, (Handon, "h", [], [0, 1]))
        other = made("h", [], TWO, (Handon, "g", [], [0, 1]))
        told = self.passed(first, one, other)
        self.assertEqual([piece["name"] for piece in told], ["f", "h"])
        self.assertEqual(told[1]["steps"], told_steps(Enter(("h", 0), [], []), Handon(("g", 0), "h", [], [0, 1])))

    def test_the_first_piece_may_be_called_by_what_is_put_in_place(self):
        host = made("f", [], TWO, self.CALL, (Label, "l"), self.LEAVE)
        self.assertEqual(self.names(host, made("g", [], TWO, (Handon, "f", [], [0, 1]))), ["f"])

    def test_a_call_less_lets_another_one_be_put_in_place(self):
        # Two calls of k stand in the code, both of them behind the placing of g, too.
        host = made("f", [], TWO, self.CALL, (Label, "l"), (Handon, "k", [], [0, 1]))
        middle = made("g", [], TWO, (Handon, "k", [], [0, 1]))
        self.assertEqual(self.names(host, middle, made("k", [], TWO, self.LEAVE)), ["f", "k"])

    def test_no_pieces(self):
        self.assert_stays()
        self.assert_stays(made("f", [], TWO, self.LEAVE))


class BehindSummonTest(PlacingCase):
    ARMS = [("t", ["fault.0"]), ("e", []), ("w", ["x", "y"]), None]
    WAYS = FOUR

    def host(self, arms=None):
        return made(
            "f", ["a"], TWO, (Tell, "a"), (Summon, "g", ["a", 5], arms or self.ARMS), (Label, "t"),
            (Return, 0, ["fault.0"]), (Label, "e"), (Label, "w"), (Return, 1, []),
        )

    def test_all_kinds_of_steps(self):
        callee = made(
            "g", ["p", "q"], self.WAYS,
            (Label, "top"), (Move, "z", "p"), (Compute, "b", "/", "z", 3, "trap"), (Tell, "fault.0"),
            (Test, "<", "p", "q", "top"), (Summon, "f", ["z", 1], [("trap", ["fault.0"]), ("top", []), None]),
            (Label, "trap"), (Return, 0, ["fault.0"]), (Return, 1, []), (Return, 2, ["a", 7]), (Return, 3, ["z"]),
            (Jump, "trap"), (Send, [("p", "c"), ("fault.0", 1)], "top"), (Handon, "f", ["p"], [0, -1, 2, 3]),
            (Enter, [("k.x", "p")], ["k.y"]), (Return, 2, ["q", "k.x"]),
        )
        host = self.host()
        told = self.passed(host, callee)
        self.assertEqual([(one["name"], one["params"], one["ways"]) for one in told], [("f", ["a"], TWO)])
        awaited = told_steps(
            host.steps[0],
            Enter(
                ("f", 1), [("g.p", "a"), ("g.q", 5)],
                ["g.a", "g.b", "g.c", "g.k.x", "g.k.y", "g.z"],
            ),
            Label(("g", 0), "g.top"),
            Move(("g", 1), "g.z", "g.p"),
            Compute(("g", 2), "g.b", "/", "g.z", 3, "g.trap"),
            Tell(("g", 3), "fault.0"),
            Test(("g", 4), "<", "g.p", "g.q", "g.top"),
            Summon(("g", 5), "f", ["g.z", 1], [("g.trap", ["fault.0"]), ("g.top", []), None]),
            Label(("g", 6), "g.trap"),
            Send(("g", 7), [("fault.0", "fault.0")], "t"),
            Send(("g", 8), [], "e"),
            Send(("g", 9), [("x", "g.a"), ("y", 7)], "w"),
            Jump(("g", 11), "g.trap"),
            Send(("g", 12), [("g.p", "g.c"), ("fault.0", 1)], "g.top"),
            Summon(("g", 13), "f", ["g.p"], [("t", ["fault.0"]), None, ("w", ["x", "y"]), None]),
            Enter(("g", 14), [("g.k.x", "g.p")], ["g.k.y"]),
            Send(("g", 15), [("x", "g.q"), ("y", "g.k.x")], "w"),
            *host.steps[2:],
        )
        self.assertEqual(told[0]["steps"], awaited)

    def test_a_return_whose_arm_is_none_is_left_out(self):
        told = self.passed(self.host(), made("g", ["p", "q"], self.WAYS, (Return, 3, ["p"]), (Return, 1, [])))
        marks = [step["mark"] for step in told[0]["steps"]]
        self.assertNotIn(("g", 0), marks)
        self.assertIn(("g", 1), marks)

    def test_handed_on_to_a_way_whose_arm_is_none(self):
        told = self.passed(self.host(), made("g", ["p", "q"], self.WAYS, (Handon, "f", ["q"], [3, 1])))
        self.assertEqual(told[0]["steps"][2], plain_step(Summon(("g", 0), "f", ["g.q"], [None, ("e", [])])))

    def test_what_is_zeroed_and_in_which_order(self):
        callee = made(
            "g", ["m", "z"], TWO,
            (Move, "y", "z"), (Move, "end.0", "m"), (Tell, "c"), (Tell, "b.x"), (Move, "fault.0", "ab"),
            (Tell, "b"), (Return, 1, []),
        )
        host = made("f", [], TWO, (Summon, "g", [1, "y"], [None, ("l", [])]), (Label, "l"), (Return, 1, []))
        told = self.passed(host, callee)
        self.assertEqual(told[0]["steps"][0], plain_step(
            Enter(("f", 0), [("g.m", 1), ("g.z", "y")], ["g.ab", "g.b", "g.b.x", "g.c", "g.end.0", "g.y"])
        ))

    def test_no_parameters_and_no_names(self):
        host = made("f", [], TWO, (Summon, "g", [], [None, ("l", [])]), (Label, "l"), (Return, 1, []))
        told = self.passed(host, made("g", [], TWO, (Return, 1, [])))
        self.assertEqual(told[0]["steps"][0], plain_step(Enter(("f", 0), [], [])))

    def test_a_parameter_that_no_row_tells(self):
        host = made("f", [], TWO, (Summon, "g", [8], [None, ("l", [])]), (Label, "l"), (Return, 1, []))
        told = self.passed(host, made("g", ["p"], TWO, (Return, 1, [])))
        self.assertEqual(told[0]["steps"][0], plain_step(Enter(("f", 0), [("g.p", 8)], [])))

    def test_a_host_that_is_not_the_first_piece(self):
        first = made("m", [], TWO, (Return, 1, []))
        told = self.passed(first, made("g", ["p", "q"], self.WAYS, (Return, 1, [])), self.host())
        self.assertEqual([one["name"] for one in told], ["m", "f"])
        self.assertEqual(told[1]["steps"][1]["kind"], "Enter")

    def test_the_atoms_of_the_row_are_the_hosts(self):
        host = made("f", ["p"], TWO, (Summon, "g", ["p", "g.p"], [None, ("l", ["q"])]), (Label, "l"), (Return, 1, []))
        told = self.passed(host, made("g", ["p", "q"], TWO, (Return, 1, ["q"])))
        self.assertEqual(told[0]["steps"][:2], told_steps(
            Enter(("f", 0), [("g.p", "p"), ("g.q", "g.p")], []), Send(("g", 0), [("q", "g.q")], "l"),
        ))


class BehindHandonTest(PlacingCase):
    WAYS = FOUR

    def host(self):
        return made("f", ["a"], self.WAYS, (Label, "top"), (Handon, "g", ["a", -2], [0, 3, -1, 2]), (Jump, "top"))

    def test_returns_and_handons(self):
        callee = made(
            "g", ["p", "q"], self.WAYS,
            (Label, "top"), (Return, 0, ["fault.0"]), (Return, 1, []), (Return, 2, ["p"]), (Return, 3, ["q", "z"]),
            (Handon, "f", ["q"], [3, 2, 1, 0, -1]), (Summon, "f", ["q"], [None, ("top", ["z"])]), (Jump, "top"),
        )
        host = self.host()
        told = self.passed(host, callee)
        self.assertEqual(told[0]["steps"], told_steps(
            host.steps[0],
            Enter(("f", 1), [("g.p", "a"), ("g.q", -2)], ["g.z"]),
            Label(("g", 0), "g.top"),
            Return(("g", 1), 0, ["fault.0"]),
            Return(("g", 2), 3, []),
            Return(("g", 4), 2, ["g.q", "g.z"]),
            Handon(("g", 5), "f", ["g.q"], [2, -1, 3, 0, -1]),
            Summon(("g", 6), "f", ["g.q"], [None, ("g.top", ["g.z"])]),
            Jump(("g", 7), "g.top"),
            host.steps[2],
        ))

    def test_fault_and_end_are_told_by_their_numbers(self):
        host = made("f", [], TWO, (Handon, "g", [], [1, 0]))
        told = self.passed(host, made("g", [], TWO, (Return, 0, []), (Return, 1, []), (Handon, "f", [], [0, 1])))
        self.assertEqual(told[0]["steps"][1:], told_steps(
            Return(("g", 0), 1, []), Return(("g", 1), 0, []), Handon(("g", 2), "f", [], [1, 0]),
        ))


class SeveralTest(PlacingCase):
    def test_one_behind_the_other_with_several_names_ahead(self):
        first = made("f", ["a"], TWO, (Summon, "h", ["a"], [None, ("l", ["x"])]), (Label, "l"), (Return, 1, ["x"]))
        inner = made("g", ["a"], TWO, (Label, "l"), (Compute, "v", "+", "a", 1, "l"), (Return, 1, ["v"]))
        outer = made("h", ["a"], TWO, (Summon, "g", ["a"], [None, ("l", ["y"])]), (Label, "l"), (Return, 1, ["y"]))
        told = self.passed(first, inner, outer)
        self.assertEqual([one["name"] for one in told], ["f"])
        # g goes into h first, since it stands ahead; then h goes into f.
        self.assertEqual(told[0]["steps"], told_steps(
            Enter(("f", 0), [("h.a", "a")], ["h.g.a", "h.g.v", "h.y"]),
            Enter(("h", 0), [("h.g.a", "h.a")], ["h.g.v"]),
            Label(("g", 0), "h.g.l"),
            Compute(("g", 1), "h.g.v", "+", "h.g.a", 1, "h.g.l"),
            Send(("g", 2), [("h.y", "h.g.v")], "h.l"),
            Label(("h", 1), "h.l"),
            Send(("h", 2), [("x", "h.y")], "l"),
            Label(("f", 1), "l"),
            Return(("f", 2), 1, ["x"]),
        ))

    def test_the_first_one_in_the_codes_order_goes_first(self):
        # h stands ahead of g here, so h goes into f first, and then g into f: g's names have only one name ahead.
        first = made("f", ["a"], TWO, (Summon, "h", ["a"], [None, ("l", ["x"])]), (Label, "l"), (Return, 1, ["x"]))
        inner = made("g", ["a"], TWO, (Label, "l"), (Compute, "v", "+", "a", 1, "l"), (Return, 1, ["v"]))
        outer = made("h", ["a"], TWO, (Summon, "g", ["a"], [None, ("l", ["y"])]), (Label, "l"), (Return, 1, ["y"]))
        told = self.passed(first, outer, inner)
        self.assertEqual([one["name"] for one in told], ["f"])
        self.assertEqual(told[0]["steps"], told_steps(
            Enter(("f", 0), [("h.a", "a")], ["h.y"]),
            Enter(("h", 0), [("g.a", "h.a")], ["g.v"]),
            Label(("g", 0), "g.l"),
            Compute(("g", 1), "g.v", "+", "g.a", 1, "g.l"),
            Send(("g", 2), [("h.y", "g.v")], "h.l"),
            Label(("h", 1), "h.l"),
            Send(("h", 2), [("x", "h.y")], "l"),
            Label(("f", 1), "l"),
            Return(("f", 2), 1, ["x"]),
        ))

    def test_two_pieces_in_one_host(self):
        host = made(
            "f", [], TWO, (Summon, "g", [], [None, ("l", [])]), (Label, "l"), (Handon, "h", [], [0, 1]),
        )
        told = self.passed(host, made("g", [], TWO, (Return, 1, [])), made("h", [], TWO, (Return, 1, [])))
        self.assertEqual(told[0]["steps"], told_steps(
            Enter(("f", 0), [], []), Send(("g", 0), [], "l"), Label(("f", 1), "l"),
            Enter(("f", 2), [], []), Return(("h", 0), 1, []),
        ))

    def test_a_handon_put_in_place_of_a_summon_put_in_place_of_a_handon(self):
        host = made("f", [], TWO, (Summon, "g", [], [None, ("l", [])]), (Label, "l"), (Return, 1, []))
        told = self.passed(
            host, made("g", [], TWO, (Handon, "h", [], [-1, 1])), made("h", [], TWO, (Return, 0, []), (Return, 1, [])),
        )
        self.assertEqual(told[0]["steps"], told_steps(
            Enter(("f", 0), [], []), Enter(("g", 0), [], []), Send(("h", 1), [], "l"),
            Label(("f", 1), "l"), Return(("f", 2), 1, []),
        ))

    def test_made_codes(self):
        some = 0
        for seed in range(400):
            code = made_code(seed)
            some += self.passed_code(code) != plain(code)
        self.assertGreater(some, 100)


class PlacedProgramsTest(PlacingCase):
    def test_a_chain_of_functions_becomes_one_piece(self):
        program = read("""
            fun m a
              call f a
                on got x
                  say x
                on end
            fun f a
              way got 1
              call g a
                out got got
                on end
                  say 7
            fun g a
              way got 1
              stretch
                if a = 0
                else
                  x = 10 / a
                  leave got x
              clean
                say 8
        """)
        code = lowered(program)
        for one in (code, handed(code)):
            told = self.passed_code(one)
            self.assertEqual([piece["name"] for piece in told], ["m"])
            for number in (0, 1, 3, -4):
                for fuel in range(4):
                    run = run_trees(program, [number], fuel)
                    self.assertEqual(stepped(told, [number], fuel)[:2], (run.log, run.last))
                    self.assertEqual(stepped(told, [number], fuel)[3], 1)

    def test_what_is_put_in_place_begins_with_noughts_each_time(self):
        program = read("""
            fun m
              call f
                on end
                again more
              call f
                on end
                on more
            fun f
              way more 0
              call g
                on end
                  say 1
                out more more
            fun g
              way more 0
              say x
              x = x + 1
              say x
              if k < 3
                leave more
              else
        """)
        told = self.passed_code(lowered(program))
        self.assertEqual([piece["name"] for piece in told], ["m", "f"])
        for fuel in range(12):
            run = run_trees(program, [], fuel)
            self.assertEqual(stepped(told, [], fuel)[:2], (run.log, run.last))

    def test_made_programs(self):
        some = 0
        for seed in range(300):
            code = lowered(read_program(made_text(seed)))
            for one in (code, handed(code), handed(placed(code))):
                told = self.passed_code(one)
                some += told != plain(one)
                self.assertTrue(told)
                self.assertEqual(told[0]["name"], code.pieces[0].name)
        self.assertGreater(some, 100)

    def test_marks_stay_and_none_is_left_out(self):
        for seed in range(300):
            code = lowered(read_program(made_text(seed)))
            for one in (code, handed(code)):
                ahead = sorted(step["mark"] for piece in plain(one) for step in piece["steps"])
                behind = sorted(step["mark"] for piece in plain(placed(one)) for step in piece["steps"])
                self.assertEqual(behind, ahead)

    def test_each_label_stands_once_and_each_that_is_led_to_is_there(self):
        for seed in range(100):
            code = placed(handed(placed(lowered(read_program(made_text(seed))))))
            for piece in code.pieces:
                labels = [step.label for step in piece.steps if isinstance(step, Label)]
                self.assertEqual(len(labels), len(set(labels)))
                for step in piece.steps:
                    self.assertLessEqual(set(step.labels()), set(labels))

    def test_runs_of_made_programs(self):
        fewer = 0
        for seed in range(300):
            chance = random.Random(seed)
            program = read_program(made_text(seed))
            code = lowered(program)
            for one in (code, handed(code)):
                other = placed(one)
                for fuel in (0, 1, 2, 3, 7, 40):
                    numbers = [chance.choice([0, 1, 2, -1, 10 ** 39]) for _ in program.functions[0].params]
                    run = run_trees(program, numbers, fuel)
                    ahead = stepped(plain(one), numbers, fuel)
                    behind = stepped(plain(other), numbers, fuel)
                    self.assertEqual(behind[:2], (run.log, run.last))
                    self.assertEqual(behind[2], ahead[2])
                    self.assertLessEqual(behind[3], ahead[3])
                    fewer += behind[3] < ahead[3]
        self.assertGreater(fewer, 100)


class ListsTest(PlacingCase):
    def test_a_code_changed_behind_changes_nothing(self):
        callee = made("g", ["p"], TWO, (Move, "x", "p"), (Return, 1, ["x"]))
        host = made("f", [], TWO, (Summon, "g", [1], [None, ("l", ["y"])]), (Label, "l"), (Return, 1, []))
        code = Code([host, callee])
        told = placed(code)
        ahead = plain(told)
        for piece in code.pieces:
            piece.params.append("more")
            piece.ways.append("more")
            for step in piece.steps:
                if isinstance(step, Summon):
                    step.atoms.append("more")
                    step.arms[1][1].append("more")
            piece.steps.pop()
        code.pieces.pop()
        self.assertEqual(plain(told), ahead)

    def test_what_is_told_is_a_new_code(self):
        code = Code([made("f", [], TWO, (Return, 1, []))])
        placed(code).pieces.clear()
        self.assertEqual(len(code.pieces), 1)


if __name__ == "__main__":
    unittest.main()
