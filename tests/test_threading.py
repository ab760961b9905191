"""Labels threaded, what is idle dropped, what went [2], [65], [66], [67], [68]."""

import random
import unittest

from exitweave.code import Code, Compute, Enter, Handon, Jump, Label, Move, Return, Send, Summon, Tell, Test
from exitweave.hand import handed
from exitweave.lower import lowered
from exitweave.placing import placed
from exitweave.reader import read_program
from exitweave.runner import run_trees
from exitweave.threading import dropped, threaded, went
from flat import dropped_plain, labels_in, marks_in, plain, stepped, threaded_plain
from making import made_text
from making_codes import made_code
from passing import FOUR, TWO, PassCase, is_left_of, made, told_steps


class ThreadingCase(PassCase):
    def done(self, code):
        return threaded(code)

    def rule(self, code):
        return threaded_plain(code)


class DroppingCase(PassCase):
    def done(self, code):
        return dropped(code)

    def rule(self, code):
        return dropped_plain(code)


# Labels that lead over none, one, two and three Jumps, with Labels between; all come to l0 at last.
LADDER = (
    (Label, "l1"), (Label, "m1"), (Jump, "l0"), (Label, "l2"), (Jump, "m1"), (Label, "l3"), (Label, "m3"), (Jump, "l2"),
    (Label, "l0"), (Label, "m0"), (Return, 1, []),
)


class ThreadedTest(ThreadingCase):
    def leads(self, *makers):
        """The labels to which the first step leads when it was threaded."""
        told = self.passed(made("f", [], FOUR, *makers))
        return labels_in(told[0]["steps"][0])

    def test_over_none_one_two_and_three_jumps(self):
        for label, awaited in (
            ("l0", "l0"), ("m0", "m0"), ("l1", "l0"), ("m1", "l0"), ("l2", "l0"), ("l3", "l0"), ("m3", "l0"),
        ):
            self.assertEqual(self.leads((Jump, label), *LADDER), [awaited], label)

    def test_a_jump_to_a_jump_to_a_later_one_of_several_labels(self):
        self.assertEqual(self.leads((Jump, "a"), (Label, "a"), (Jump, "m0"), *LADDER), ["m0"])

    def test_every_kind_of_step_with_labels(self):
        self.assertEqual(self.leads((Compute, "x", "+", "y", 1, "l2"), *LADDER), ["l0"])
        self.assertEqual(self.leads((Test, "<", "y", 1, "l3"), *LADDER), ["l0"])
        self.assertEqual(self.leads((Jump, "l1"), *LADDER), ["l0"])
        self.assertEqual(self.leads((Send, [("x", "y")], "l1"), *LADDER), ["l0"])
        arms = [("l3", ["fault.0"]), None, ("m0", []), ("l1", ["x", "y"]), None]
        self.assertEqual(self.leads((Summon, "g", ["x"], arms), *LADDER), ["l0", "m0", "l0"])

    def test_arms_keep_their_goals_and_their_none(self):
        arms = [("l3", ["fault.0"]), None, ("m0", []), ("l1", ["x", "y"]), None]
        told = self.passed(made("f", [], FOUR, (Summon, "g", ["x"], arms), *LADDER))
        self.assertEqual(told[0]["steps"][0]["arms"], [("l0", ["fault.0"]), None, ("m0", []), ("l0", ["x", "y"]), None])

    def test_nothing_else_is_otherwise(self):
        makers = (
            (Move, "x", "y"), (Tell, 1), (Enter, [("x", 1)], ["y"]), (Compute, "x", "/", "y", 1, "l2"), (Label, "own"),
            (Return, 2, ["x"]), (Handon, "g", ["x"], [0, -1]), (Send, [("x", "y")], "l1"), (Test, "=", 1, "x", "l0"),
        )
        code = Code([made("f", ["a"], FOUR, *makers, *LADDER), made("g", [], TWO, (Return, 1, []))])
        told = self.passed_code(code)
        ahead = plain(code)
        for piece in ahead:
            for step in piece["steps"]:
                if step["kind"] != "Label":
                    for field in ("label", "trap"):
                        if step.get(field) in ("l1", "l2", "l3", "m1", "m3"):
                            step[field] = "l0"
        self.assertEqual(told, ahead)

    def test_labels_stay_even_those_that_lead_to_jumps(self):
        told = self.passed(made("f", [], FOUR, *LADDER))
        labels = [step["label"] for step in told[0]["steps"] if step["kind"] == "Label"]
        self.assertEqual(labels, ["l1", "m1", "l2", "l3", "m3", "l0", "m0"])

    def test_labels_of_one_name_in_two_pieces(self):
        one = made("f", [], FOUR, (Jump, "a"), (Label, "a"), (Jump, "b"), (Label, "b"), (Return, 1, []))
        other = made("g", [], FOUR, (Jump, "a"), (Label, "b"), (Return, 1, []), (Label, "a"), (Tell, 1), (Jump, "b"))
        told = self.passed(one, other)
        self.assertEqual([labels_in(step) for step in told[0]["steps"]], [["b"], [], ["b"], [], []])
        self.assertEqual([labels_in(step) for step in told[1]["steps"]], [["a"], [], [], [], [], ["b"]])

    def test_a_label_at_the_end_stays(self):
        self.assertEqual(self.leads((Jump, "a"), (Label, "a")), ["a"])

    def test_made_programs(self):
        some = 0
        for seed in range(200):
            code = lowered(read_program(made_text(seed)))
            for one in (code, handed(code), placed(code), dropped(code)):
                told = self.passed_code(one)
                some += told != plain(one)
                self.assertEqual(marks_in(told), marks_in(plain(one)))
        self.assertGreater(some, 200)

    def test_made_codes(self):
        some = 0
        for seed in range(400):
            code = made_code(seed)
            some += self.passed_code(code) != plain(code)
        self.assertGreater(some, 100)


class DroppedTest(DroppingCase):
    def kept(self, *makers, ways=FOUR):
        """The numbers of the steps that are left of one piece."""
        told = self.passed(made("f", [], ways, *makers))
        return [step["mark"][1] for step in told[0]["steps"]]

    def test_nothing_idle(self):
        self.assert_stays(made(
            "f", ["a"], TWO, (Label, "top"), (Tell, "a"), (Test, "<", "a", 1, "out"), (Move, "a", 1), (Jump, "top"),
            (Label, "out"), (Return, 1, []),
        ))
        self.assert_stays(made("f", [], TWO, (Return, 1, [])))

    def test_steps_behind_those_that_lead_elsewhere(self):
        tail = ((Label, "l"), (Return, 1, []))
        for lead in ((Jump, "l"), (Send, [], "l"), (Summon, "f", [], [None, ("l", [])])):
            self.assertEqual(self.kept(lead, (Tell, 1), (Move, "x", 1), *tail)[-2:], [4] if lead[0] is Jump else [3, 4])
        for lead in ((Return, 1, []), (Handon, "f", [], [0, 1])):
            self.assertEqual(self.kept(lead, (Tell, 1), (Move, "x", 1), *tail), [0])

    def test_each_kind_of_step_is_dropped_where_it_cannot_be_come_to(self):
        kinds = (
            (Move, "x", 1), (Compute, "x", "+", 1, 1, "l"), (Tell, 1), (Test, "<", 1, 2, "l"), (Jump, "l"),
            (Summon, "f", [], [None, ("l", [])]), (Handon, "f", [], [0, 1]), (Enter, [], []), (Send, [], "l"),
            (Return, 1, []),
        )
        for maker in kinds:
            self.assertEqual(self.kept((Label, "l"), (Tell, 1), (Test, "<", 1, 2, "l"), (Return, 1, []), maker), [0, 1, 2, 3])
            self.assertEqual(self.kept((Return, 1, []), maker, (Label, "l"), (Return, 1, [])), [0])

    def test_what_may_be_led_to_stays(self):
        self.assertEqual(self.kept((Compute, "x", "/", 1, 0, "t"), (Return, 1, []), (Label, "t"), (Return, 0, [])), [0, 1, 2, 3])
        self.assertEqual(self.kept((Test, "<", 1, 2, "t"), (Return, 1, []), (Label, "t"), (Return, 0, [])), [0, 1, 2, 3])
        arms = [("t", []), None, ("u", [])]
        self.assertEqual(
            self.kept((Summon, "f", [], arms), (Label, "t"), (Return, 0, []), (Label, "u"), (Return, 1, [])), [0, 1, 2, 3, 4]
        )

    def test_jumps_to_what_follows(self):
        self.assertEqual(self.kept((Jump, "l"), (Label, "l"), (Return, 1, [])), [2])
        self.assertEqual(self.kept((Jump, "l"), (Label, "k"), (Label, "m"), (Label, "l"), (Return, 1, [])), [4])
        self.assertEqual(self.kept((Jump, "l"), (Label, "l"), (Tell, 1), (Test, "<", 1, 2, "l"), (Return, 1, [])), [1, 2, 3, 4])

    def test_jumps_over_something(self):
        makers = ((Test, "<", 1, 2, "k"), (Jump, "l"), (Label, "k"), (Tell, 1), (Label, "l"), (Return, 1, []))
        self.assertEqual(self.kept(*makers), [0, 1, 2, 3, 4, 5])

    def test_jumps_back_stay(self):
        self.assertEqual(self.kept((Label, "l"), (Tell, 1), (Jump, "l")), [0, 1, 2])
        self.assertEqual(self.kept((Label, "l"), (Jump, "l")), [0, 1])

    def test_sends_to_what_follows_stay(self):
        self.assertEqual(self.kept((Send, [], "l"), (Label, "l"), (Return, 1, [])), [0, 1, 2])

    def test_labels_to_which_nothing_leads(self):
        self.assertEqual(self.kept((Label, "a"), (Tell, 1), (Label, "b"), (Label, "c"), (Return, 1, [])), [1, 4])

    def test_a_label_that_only_an_idle_step_leads_to(self):
        self.assertEqual(self.kept((Return, 1, []), (Label, "a"), (Tell, 1), (Jump, "a")), [0])

    def test_one_coming_of_the_other(self):
        # The Tell can't be come to; without it the Jump leads to what follows; without that its Label is idle.
        self.assertEqual(self.kept((Tell, 0), (Jump, "l"), (Tell, 1), (Label, "l"), (Return, 1, [])), [0, 4])
        # The second Jump goes first, and then the first one leads to what follows.
        makers = ((Test, "<", 1, 2, "k"), (Jump, "l"), (Label, "k"), (Jump, "m"), (Label, "l"), (Label, "m"), (Return, 1, []))
        self.assertEqual(self.kept(*makers), [0, 2, 6])
        # One Jump behind the other, until none is left.
        rungs = [(Jump, "z"), (Jump, "z"), (Jump, "z"), (Label, "z"), (Return, 1, [])]
        self.assertEqual(self.kept(*rungs), [4])

    def test_a_piece_whose_last_step_goes_on(self):
        self.assertEqual(self.kept((Tell, 1), (Tell, 2)), [0, 1])
        self.assertEqual(self.kept((Test, "<", 1, 2, "l"), (Return, 1, []), (Label, "l")), [0, 1, 2])
        self.assertEqual(self.kept((Jump, "l"), (Label, "l")), [])

    def test_a_long_row_of_jumps_and_labels(self):
        makers = []
        for number in range(60):
            makers += [(Test, "<", 1, 2, f"l{number}"), (Jump, "end"), (Label, f"l{number}")]
        told = self.kept(*makers, (Label, "end"), (Return, 1, []))
        # Only the last Jump leads to what follows: between each other one and its label stand further steps.
        self.assertEqual(told, [*range(178), 179, 180, 181])

    def test_pieces_to_which_the_first_one_does_not_lead(self):
        leave = (Return, 1, [])
        pieces = [
            made("f", [], TWO, (Summon, "h", [], [None, ("l", [])]), (Label, "l"), leave),
            made("g", [], TWO, leave),
            made("h", [], TWO, (Handon, "k", [], [0, 1])),
            made("i", [], TWO, (Handon, "j", [], [0, 1])),
            made("j", [], TWO, (Summon, "i", [], [None, ("l", [])]), (Label, "l"), (Handon, "h", [], [0, 1])),
            made("k", [], TWO, (Handon, "h", [], [0, 1])),
            made("m", [], TWO, (Handon, "f", [], [0, 1])),
        ]
        self.assertEqual([piece["name"] for piece in self.passed(*pieces)], ["f", "h", "k"])

    def test_a_piece_that_only_idle_steps_call(self):
        leave = (Return, 1, [])
        pieces = [
            made("f", [], TWO, leave, (Handon, "g", [], [0, 1])),
            made("g", [], TWO, (Handon, "h", [], [0, 1])),
            made("h", [], TWO, leave),
        ]
        told = self.passed(*pieces)
        self.assertEqual([(piece["name"], len(piece["steps"])) for piece in told], [("f", 1)])

    def test_the_first_piece_stays_though_nothing_calls_it(self):
        self.assert_stays(made("f", [], TWO, (Return, 1, [])))
        told = self.passed(made("f", [], TWO, (Handon, "g", [], [0, 1])), made("g", [], TWO, (Handon, "f", [], [0, 1])))
        self.assertEqual([piece["name"] for piece in told], ["f", "g"])

    def test_other_steps_and_pieces_stay_as_they_are(self):
        code = Code([made("f", ["a", "b"], FOUR, (Label, "x"), (Tell, "a"), (Return, 3, ["b", 1]))])
        told = self.passed_code(code)
        self.assertEqual(told, [{
            "name": "f", "params": ["a", "b"], "ways": FOUR, "steps": told_steps(*code.pieces[0].steps[1:]),
        }])

    def test_made_programs(self):
        some = 0
        for seed in range(200):
            code = lowered(read_program(made_text(seed)))
            for one in (code, threaded(code), threaded(placed(handed(code)))):
                told = self.passed_code(one)
                some += told != plain(one)
        self.assertGreater(some, 400)

    def test_made_codes(self):
        some = 0
        for seed in range(400):
            code = made_code(seed)
            some += self.passed_code(code) != plain(code)
            self.assertEqual(plain(dropped(code)), dropped_plain(plain(code), min))
        self.assertGreater(some, 300)

    def test_what_is_left_hangs_not_on_the_order(self):
        for seed in range(60):
            code = threaded(placed(lowered(read_program(made_text(seed)))))
            awaited = plain(dropped(code))
            chance = random.Random(seed)
            self.assertEqual(dropped_plain(plain(code), min), awaited)
            self.assertEqual(dropped_plain(plain(code), chance.choice), awaited)


class WentTest(unittest.TestCase):
    def test_marks_rise_as_tuples(self):
        leave = (Return, 1, [])
        before = Code([
            made("g", [], TWO, *[(Tell, 1)] * 11, leave), made("b", [], TWO, (Label, "l"), leave), made("ab", [], TWO, leave),
        ])
        after = Code([made("g", [], TWO, (Tell, 1), (Tell, 1))])
        self.assertEqual(
            went(before, after), [("ab", 0), ("b", 0), ("b", 1)] + [("g", number) for number in range(2, 12)]
        )

    def test_none_from_a_code_to_itself(self):
        for seed in range(20):
            code = lowered(read_program(made_text(seed)))
            self.assertEqual(went(code, code), [])
            self.assertEqual(went(code, handed(code)), [])
            self.assertEqual(went(code, threaded(code)), [])

    def test_marks_of_labels_too(self):
        code = Code([made("f", [], TWO, (Jump, "l"), (Label, "l"), (Return, 1, []))])
        self.assertEqual(went(code, dropped(code)), [("f", 0), ("f", 1)])
        self.assertEqual(went(dropped(code), code), [])

    def test_marks_count_wherever_they_stand(self):
        before = Code([made("f", [], TWO, (Tell, 1), (Return, 1, []))])
        after = Code([made("g", [], TWO, (Return, 1, [])), made("f", [], TWO, (Jump, "l"))])
        self.assertEqual(went(before, after), [("f", 1)])
        self.assertEqual(went(after, before), [("g", 0)])

    def test_a_new_list_each_time(self):
        code = Code([made("f", [], TWO, (Jump, "l"), (Label, "l"), (Return, 1, []))])
        went(code, dropped(code)).clear()
        self.assertEqual(went(code, dropped(code)), [("f", 0), ("f", 1)])

    def test_made_programs(self):
        for seed in range(100):
            code = threaded(lowered(read_program(made_text(seed))))
            behind = dropped(code)
            awaited = sorted(set(marks_in(plain(code))) - set(marks_in(plain(behind))))
            self.assertEqual(went(code, behind), awaited)


class RunsTest(unittest.TestCase):
    def test_runs_of_made_programs(self):
        shorter = 0
        for seed in range(300):
            chance = random.Random(seed)
            program = read_program(made_text(seed))
            code = lowered(program)
            one = chance.choice([code, handed(code), placed(code), threaded(code), dropped(code)])
            for other in (threaded(one), dropped(one)):
                for fuel in (0, 1, 2, 3, 7, 40):
                    numbers = [chance.choice([0, 1, 2, -1, 10 ** 39]) for _ in program.functions[0].params]
                    run = run_trees(program, numbers, fuel)
                    ahead = stepped(plain(one), numbers, fuel)
                    behind = stepped(plain(other), numbers, fuel)
                    self.assertEqual(behind[:2], (run.log, run.last))
                    self.assertTrue(is_left_of(behind[2], ahead[2]))
                    self.assertEqual(behind[3], ahead[3])
                    shorter += len(behind[2]) < len(ahead[2])
        self.assertGreater(shorter, 100)


class ListsTest(unittest.TestCase):
    def test_what_is_told_is_a_new_code(self):
        for done in (threaded, dropped):
            code = Code([made("f", ["a"], TWO, (Tell, 1), (Return, 1, []))])
            ahead = plain(code)
            told = done(code)
            told.pieces[0].steps.clear()
            told.pieces[0].params.clear()
            told.pieces[0].ways.clear()
            told.pieces.clear()
            self.assertEqual(plain(code), ahead)


if __name__ == "__main__":
    unittest.main()
