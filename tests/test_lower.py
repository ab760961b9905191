"""Programs put as codes [2], [26], [44], [45], and runs of these [32] to [37]."""

import random
import unittest

from examples import lines_of, lines_read, told_program
from exitweave.code import Code, Piece
from exitweave.errors import Forgotten
from exitweave.looker import bears, judged
from exitweave.lower import lowered
from exitweave.reader import read_program
from exitweave.runner import run_trees
from exitweave.trees import Call, Copy, If, Leave, On, Out, Reckon, Say, Stretch
from flat import LEADS_ELSEWHERE, labels_in, names_in, plain, reached, stepped
from making import made_text, marked_stretches
from oracles import all_facts

SEEDS = range(300)


def lowered_lines(text):
    """The plain data of the code of a program that stands indented between line feeds."""
    return plain(lowered(lines_read(*lines_of(text))))


def of_kind(piece, kind):
    return [step for step in piece["steps"] if step["kind"] == kind]


def told_atoms(piece):
    return [step["atom"] for step in of_kind(piece, "Tell")]


def returns(piece):
    return sorted([(step["way"], step["atoms"]) for step in of_kind(piece, "Return")], key=repr)


class Expected:
    """What is to be found in a piece, told from the rows of its function and the facts of the program."""

    def __init__(self, program, function, facts):
        self.program, self.function, self.facts = program, function, facts
        self.leavings = []
        self.counts = {"Compute": 0, "Test": 0, "Summon": 0, "Tell": 0}
        self.names = set()
        self.plain_returns = []
        self.stretches = []
        self.tables = []
        self.walk(function.rows, ())
        if ("through", function.place, 0) in facts:
            self.plain_returns.append(("end", []))

    def walk(self, rows, within):
        for row in rows:
            if ("at", row.place) in self.facts:
                self.row(row, within)
                for place, number, inner in row.blocks():
                    if ("in", place, number) in self.facts:
                        self.walk(inner, within + ((row,) if isinstance(row, Stretch) else ()))

    def name(self, *atoms):
        self.names |= {atom for atom in atoms if isinstance(atom, str)}

    def leaves(self, way, within):
        self.leavings.append((way, within))

    def row(self, row, within):
        if isinstance(row, Copy):
            self.name(row.goal, row.atom)
        elif isinstance(row, Say):
            self.counts["Tell"] += 1
            self.name(row.atom)
        elif isinstance(row, Reckon):
            self.counts["Compute"] += 1
            self.name(row.goal, row.one, row.other)
            self.leaves("fault", within)
        elif isinstance(row, If):
            self.counts["Test"] += 1
            self.name(row.one, row.other)
        elif isinstance(row, Leave):
            self.name(*row.atoms)
            if within:
                self.leaves(row.way, within)
            else:
                self.plain_returns.append((row.way, row.atoms))
        elif isinstance(row, Stretch):
            self.stretches.append(row)
            self.name(*[row.atom for row in row.clean], *[row.goal for row in row.clean if isinstance(row, Copy)])
        else:
            self.call(row, within)

    def call(self, row, within):
        self.counts["Summon"] += 1
        self.name(*row.atoms)
        self.leaves("fault", within)
        found = ["fault"]
        for arm in row.arms:
            if ("way", row.callee, arm.way) in self.facts:
                found.append(arm.way)
                if isinstance(arm, Out):
                    self.leaves(arm.own, within)
                else:
                    self.name(*arm.goals)
        ways = self.program.function(row.callee).all_ways()
        self.tables.append((row.callee, row.atoms, [way in found for way in ways]))

    def cleans(self, stretch):
        through = ("through", stretch.place, 0) in self.facts
        return through + len({way for way, within in self.leavings if stretch in within})

    def value_names(self, way):
        return [f"{way}.{number}" for number in range(self.function.count_of(way))]

    def returns(self):
        ways = self.function.all_ways()
        shared = [(way, self.value_names(way)) for way in {way for way, _ in self.leavings}]
        return sorted([(ways.index(way), list(atoms)) for way, atoms in shared + self.plain_returns], key=repr)

    def all_names(self):
        return self.names | {name for way, _ in self.leavings for name in self.value_names(way)} - {"fault.0"}


class LoweringTest(unittest.TestCase):
    def assert_sound(self, program, code):
        """All of [44] that hangs not on runs, but for where clean-up rows stand."""
        facts = all_facts(program)
        self.assertEqual([piece["name"] for piece in code], [function.name for function in program.functions])
        for function, piece in zip(program.functions, code):
            expected = Expected(program, function, facts)
            self.assertEqual(piece["params"], function.params)
            self.assertEqual(piece["ways"], ["fault", "end"] + [name for name, _ in function.ways])
            self.assert_steps_sound(function, piece)
            self.assert_rows_are_there(expected, piece)
            self.assertEqual(returns(piece), expected.returns())
            self.assert_tables(expected, piece)

    def assert_steps_sound(self, function, piece):
        steps = piece["steps"]
        self.assertEqual([step["mark"] for step in steps], [(function.name, k) for k in range(len(steps))])
        self.assertFalse(of_kind(piece, "Handon") + of_kind(piece, "Enter"))
        labels = [step["label"] for step in of_kind(piece, "Label")]
        self.assertEqual(len(labels), len(set(labels)))
        for label in labels:
            self.assertIs(type(label), str)
        for step in steps:
            self.assertLessEqual(set(labels_in(step)), set(labels))
        come_to = reached(steps)
        for spot, step in enumerate(steps):
            self.assertTrue(spot in come_to or step["kind"] == "Label", step)
        self.assertIn(steps[-1]["kind"], LEADS_ELSEWHERE)

    def assert_rows_are_there(self, expected, piece):
        for kind in ("Compute", "Test", "Summon"):
            self.assertEqual(len(of_kind(piece, kind)), expected.counts[kind], kind)
        says = sum(isinstance(row, Say) * expected.cleans(one) for one in expected.stretches for row in one.clean)
        self.assertEqual(len(of_kind(piece, "Tell")), expected.counts["Tell"] + says)
        told = {name for step in piece["steps"] for name in names_in(step)}
        self.assertEqual(told, expected.all_names())

    def assert_tables(self, expected, piece):
        def shown(tables):
            return sorted(tables, key=repr)

        told = [
            (step["callee"], step["atoms"], [arm is not None for arm in step["arms"]])
            for step in of_kind(piece, "Summon")
        ]
        self.assertEqual(shown(told), shown(expected.tables))

    def assert_runs_alike(self, program, code, numbers, fuel):
        run = run_trees(program, numbers, fuel)
        told = stepped(code, numbers, fuel)
        self.assertEqual((told[0], told[1]), (run.log, run.last), (numbers, fuel))
        return run


class PiecesTest(LoweringTest):
    def test_kinds(self):
        code = lowered(told_program_armed())
        self.assertIs(type(code), Code)
        for piece in code.pieces:
            self.assertIs(type(piece), Piece)

    def test_an_empty_function(self):
        self.assertEqual(lowered_lines("fun m a b"), [{
            "name": "m", "params": ["a", "b"], "ways": ["fault", "end"],
            "steps": [{"kind": "Return", "mark": ("m", 0), "way": 1, "atoms": []}],
        }])

    def test_a_piece_for_each_function_in_order(self):
        code = lowered(told_program_armed())
        self.assertEqual([piece.name for piece in code.pieces], ["main", "empty", "help"])
        self.assertEqual([piece.params for piece in code.pieces], [["a", "b"], [], ["u", "v"]])
        self.assertEqual([piece.ways for piece in code.pieces], [
            ["fault", "end", "good", "bad"], ["fault", "end"], ["fault", "end", "got", "none", "more"],
        ])
        self.assert_sound(told_program_armed(), plain(code))

    def test_plain_rows(self):
        code = lowered_lines("""
            fun m
              x = 1
              x = y
              say x
              say -3
        """)
        kinds = [step["kind"] for step in code[0]["steps"] if step["kind"] != "Label"]
        self.assertEqual(kinds, ["Move", "Move", "Tell", "Tell", "Return"])
        self.assertEqual([(s["goal"], s["atom"]) for s in of_kind(code[0], "Move")], [("x", 1), ("x", "y")])
        self.assertEqual(told_atoms(code[0]), ["x", -3])

    def test_a_reckoning_and_its_fault(self):
        code = lowered_lines("""
            fun m a
              x = a / 2
        """)
        compute, = of_kind(code[0], "Compute")
        self.assertEqual([compute[field] for field in ("goal", "op", "one", "other")], ["x", "/", "a", 2])
        self.assertEqual(returns(code[0]), [(0, ["fault.0"]), (1, [])])

    def test_a_function_that_is_left_by_fault_alone(self):
        code = lowered_lines("""
            fun m
              call m
                again end
        """)
        self.assertEqual(returns(code[0]), [(0, ["fault.0"])])
        summon, = of_kind(code[0], "Summon")
        self.assertIsNotNone(summon["arms"][0])
        self.assertIsNone(summon["arms"][1])

    def test_made_programs(self):
        for seed in SEEDS:
            program = read_program(marked_stretches(made_text(seed)))
            self.assert_sound(program, plain(lowered(program)))
            program = read_program(made_text(seed))
            self.assert_sound(program, plain(lowered(program)))

    def test_the_same_program_is_put_as_the_same_code(self):
        for seed in range(40):
            program = read_program(made_text(seed))
            first = plain(lowered(program))
            self.assertEqual(plain(lowered(program)), first)
            self.assertEqual(plain(lowered(read_program(made_text(seed)))), first)

    def test_the_program_stays_as_it_was(self):
        for seed in range(40):
            program = read_program(made_text(seed))
            lowered(program)
            self.assertEqual(program.text(), made_text(seed))

    def test_a_program_changed_behind_changes_nothing(self):
        program = read_program("\n".join(lines_of(ALL_ROWS)))
        code = lowered(program)
        ahead = plain(code)
        for function in program.functions:
            function.params.append("more")
            for row in function.rows:
                if isinstance(row, (Leave, Call)):
                    row.atoms.append("more")
                for arm in getattr(row, "arms", []):
                    if isinstance(arm, On):
                        arm.goals.append("more")
            function.rows.clear()
        self.assertEqual(plain(code), ahead)


ALL_ROWS = """
    fun m a
      way one 1
      way two 2
      stretch
        if a < 0
          leave two a x
        else
          x = 10 / a
        call g x
          on end
            say 1
          on got y
            stretch
              call g y
                out got one
                on end
                again more a
            clean
              say 101
              y = 0
          again more a
      clean
        say 102
        x = 7
      call g x
        out got one
        out end end
        on more z
          leave one z
      say 99
    fun g n
      way got 1
      way more 1
      if n = 3
        leave got n
      else
      if n < 3
        n = n + 1
        leave more n
      else
"""


def told_program_armed():
    """The program of the examples, with an arm where it forgets one."""
    program = told_program()
    call = program.functions[0].rows[4]
    call.arms.extend([Out(100, "end", "end"), Out(101, "good", "good"), Out(102, "bad", "bad")])
    return program


class NotComeToTest(LoweringTest):
    def test_rows_behind_a_leave(self):
        code = lowered_lines("""
            fun m
              leave end
              say 1
              x = 1 / 0
        """)
        self.assertEqual([step["kind"] for step in code[0]["steps"] if step["kind"] != "Label"], ["Return"])

    def test_rows_behind_a_choice_that_leaves_both_ways(self):
        code = lowered_lines("""
            fun m a
              way w 0
              if a = 0
                leave end
              else
                leave w
              say 1
        """)
        kinds = [step["kind"] for step in code[0]["steps"] if step["kind"] != "Label"]
        self.assertEqual(sorted(kinds), ["Return", "Return", "Test"])
        self.assertEqual(returns(code[0]), [(1, []), (2, [])])

    def test_arms_in_vain(self):
        code = lowered_lines("""
            fun m
              way w 1
              call g
                on end
                  say 1
                on no x
                  say 2
                  x = 1 / 0
                out never w
              say 3
            fun g
              way no 1
              way never 1
        """)
        self.assertEqual(told_atoms(code[0]), [1, 3])
        summon, = of_kind(code[0], "Summon")
        self.assertEqual([arm is None for arm in summon["arms"]], [False, False, True, True])
        self.assertEqual(returns(code[0]), [(0, ["fault.0"]), (1, [])])
        self.assertFalse({name for step in code[0]["steps"] for name in names_in(step)})

    def test_arms_that_are_lacking_and_not_needed(self):
        code = lowered_lines("""
            fun m
              call g
              say 3
            fun g
              way w 2
              call g
        """)
        self.assertEqual(told_atoms(code[0]), [])
        summon, = of_kind(code[0], "Summon")
        self.assertEqual([arm is None for arm in summon["arms"]], [False, True, True])
        self.assertEqual(summon["arms"][0][1], ["fault.0"])

    def test_a_function_that_nothing_calls_is_put_all_the_same(self):
        code = lowered_lines("""
            fun m
            fun g
              say 1
        """)
        self.assertEqual(told_atoms(code[1]), [1])

    def test_a_stretch_that_is_not_come_to(self):
        code = lowered_lines("""
            fun m
              leave end
              stretch
                leave end
              clean
                say 1
        """)
        self.assertEqual(told_atoms(code[0]), [])
        self.assertEqual(returns(code[0]), [(1, [])])

    def test_the_end_of_a_stretch_that_is_not_come_to(self):
        code = lowered_lines("""
            fun m
              stretch
                leave end
              clean
                say 1
              say 2
        """)
        self.assertEqual(told_atoms(code[0]), [1])
        self.assertEqual(returns(code[0]), [(1, [])])


class CleansTest(LoweringTest):
    def cleans(self, text, *numbers):
        piece = lowered_lines(text)[0]
        return [told_atoms(piece).count(number) for number in numbers]

    def test_own_end_alone(self):
        self.assertEqual(self.cleans("""
            fun m
              stretch
                say 1
              clean
                say 100
        """, 100), [1])

    def test_two_leaves_by_one_way_share_one(self):
        self.assertEqual(self.cleans("""
            fun m a
              way w 1
              stretch
                if a = 0
                  leave w 1
                else
                if a = 1
                  leave w 2
                else
              clean
                say 100
        """, 100), [2])

    def test_leaves_by_several_ways_and_faults(self):
        self.assertEqual(self.cleans("""
            fun m a
              way w 1
              way v 0
              stretch
                if a = 0
                  leave w 1
                else
                if a = 1
                  leave v
                else
                if a = 2
                  leave end
                else
                x = a + 1
                y = a + 1
              clean
                say 100
        """, 100), [5])

    def test_a_call_by_out_arms_and_by_fault(self):
        self.assertEqual(self.cleans("""
            fun m a
              way w 1
              way v 0
              stretch
                call g
                  out end v
                  out got w
                  out no end
              clean
                say 100
            fun g
              way got 1
              way no 0
              if 0 = 0
                leave got 3
              else
        """, 100), [3])

    def test_stretches_in_one_another(self):
        text = """
            fun m a
              way w 1
              stretch
                stretch
                  if a = 0
                    leave w a
                  else
                  stretch
                  clean
                    say 300
                clean
                  say 200
                x = 1 / a
                leave end
              clean
                say 100
        """
        # The outermost: w from within, fault by the reckoning, end by the leave; its own end is not come to.
        self.assertEqual(self.cleans(text, 100, 200, 300), [3, 2, 1])

    def test_a_way_that_leaves_from_both_shares_the_outer_ones(self):
        text = """
            fun m a
              stretch
                x = 1 / a
                stretch
                  y = 1 / a
                clean
                  say 200
                z = 1 / a
              clean
                say 100
        """
        self.assertEqual(self.cleans(text, 100, 200), [2, 2])

    def test_stretches_behind_one_another(self):
        text = """
            fun m a
              stretch
                leave end
              clean
                say 100
              stretch
              clean
                say 200
        """
        self.assertEqual(self.cleans(text, 100, 200), [1, 0])

    def test_a_stretch_in_an_arm(self):
        text = """
            fun m a
              stretch
                call g
                  on end
                    stretch
                      leave end
                    clean
                      say 200
              clean
                say 100
            fun g
        """
        # fault by the call and end by the leave; the stretch within has the leave alone.
        self.assertEqual(self.cleans(text, 100, 200), [2, 1])

    def test_rows_behind_a_stretch_are_not_in_it(self):
        self.assertEqual(self.cleans("""
            fun m a
              way w 0
              stretch
              clean
                say 100
              x = 1 / a
              leave w
        """, 100), [1])

    def test_all_clean_up_rows_stand_each_time_in_their_order(self):
        code = lowered_lines("""
            fun m a
              way w 1
              stretch
                leave w a
              clean
                a = 0
                say 7
                a = 1
                say a
        """)
        steps = [step for step in code[0]["steps"] if step["kind"] in ("Move", "Tell")]
        kept = [step for step in steps if step.get("goal") != "w.0"]
        self.assertEqual([(s["kind"], s["atom"]) for s in kept], [("Move", 0), ("Tell", 7), ("Move", 1), ("Tell", "a")])

    def test_made_programs(self):
        several = 0
        for seed in SEEDS:
            program = read_program(marked_stretches(made_text(seed)))
            facts = all_facts(program)
            for function, piece in zip(program.functions, plain(lowered(program))):
                expected = Expected(program, function, facts)
                for stretch in expected.stretches:
                    count = told_atoms(piece).count(stretch.clean[0].atom)
                    self.assertEqual(count, expected.cleans(stretch), (seed, stretch.place))
                    several += count > 2
        self.assertGreater(several, 20)


class ReturnsTest(LoweringTest):
    def test_leaves_outside_all_stretches_have_one_each(self):
        code = lowered_lines("""
            fun m a
              way w 2
              if a = 0
                leave w a 1
              else
              if a = 1
                leave w a 1
              else
              if a = 2
                leave end
              else
        """)
        self.assertEqual(returns(code[0]), [(1, []), (1, []), (2, ["a", 1]), (2, ["a", 1])])

    def test_ways_through_stretches_and_out_arms_share_one(self):
        code = lowered_lines("""
            fun m a
              way w 1
              call g
                on end
                  stretch
                    leave w 5
                  clean
                out got w
              stretch
                call g
                  out got w
                  out end end
              clean
              leave w a
            fun g
              way got 1
              if x = 0
                leave got 1
              else
        """)
        self.assertEqual(returns(code[0]), [(0, ["fault.0"]), (2, ["w.0"])])

    def test_the_end_of_the_body_and_an_out_to_end(self):
        code = lowered_lines("""
            fun m a
              call g
                out end end
                on w
            fun g
              way w 0
              if x = 0
                leave w
              else
        """)
        self.assertEqual(returns(code[0]), [(0, ["fault.0"]), (1, []), (1, [])])

    def test_many_values(self):
        code = lowered_lines("""
            fun m a
              way w 3
              stretch
                leave w a 2 a
              clean
                a = 0
        """)
        self.assertEqual(returns(code[0]), [(2, ["w.0", "w.1", "w.2"])])
        self.assertEqual({n for s in code[0]["steps"] for n in names_in(s)}, {"a", "w.0", "w.1", "w.2"})

    def test_between_the_label_of_an_arm_and_its_return_stand_labels_and_jumps_alone(self):
        straight = 0
        for seed in SEEDS:
            program = read_program(made_text(seed))
            facts = all_facts(program)
            for function, piece in zip(program.functions, plain(lowered(program))):
                straight += self.assert_straight(program, function, facts, piece)
        self.assertGreater(straight, 100)

    def assert_straight(self, program, function, facts, piece):
        """Calls outside all stretches, in the order of their rows, stand so in a piece, too."""
        calls = outer_calls(function.rows, facts)
        summons = {(s["callee"], tuple(s["atoms"])): s for s in of_kind(piece, "Summon")}
        keys = [(call.callee, tuple(call.atoms)) for call in every_call(function.rows, facts)]
        count = 0
        for call in calls:
            key = (call.callee, tuple(call.atoms))
            if keys.count(key) > 1:
                continue
            ways = program.function(call.callee).all_ways()
            for arm in call.arms:
                if ("way", call.callee, arm.way) in facts:
                    taken = summons[key]["arms"][ways.index(arm.way)]
                    count += self.assert_arm(function, piece, arm, taken)
            label, goals = summons[key]["arms"][0]
            self.assertEqual(goals, ["fault.0"])
            self.assertEqual(straight_step(piece, label)["atoms"], ["fault.0"])
        return count

    def assert_arm(self, function, piece, arm, taken):
        if isinstance(arm, Out):
            names = [f"{arm.own}.{number}" for number in range(function.count_of(arm.own))]
            self.assertEqual(taken[1], names)
            step = straight_step(piece, taken[0])
            self.assertEqual((piece["ways"][step["way"]], step["atoms"]), (arm.own, names))
            return 1
        self.assertEqual(taken[1], arm.goals)
        if isinstance(arm, On) and len(arm.rows) == 1 and isinstance(arm.rows[0], Leave):
            step = straight_step(piece, taken[0])
            self.assertEqual((piece["ways"][step["way"]], step["atoms"]), (arm.rows[0].way, arm.rows[0].atoms))
            return 1
        return 0


def every_call(rows, facts, stretches=True):
    calls = []
    for row in rows:
        if ("at", row.place) in facts:
            calls += [row] if isinstance(row, Call) else []
            if stretches or not isinstance(row, Stretch):
                for place, number, inner in row.blocks():
                    calls += every_call(inner, facts, stretches) if ("in", place, number) in facts else []
    return calls


def outer_calls(rows, facts):
    return every_call(rows, facts, False)


def straight_step(piece, label):
    """The step to which one comes from the label over Labels and Jumps alone."""
    spots = {step["label"]: spot for spot, step in enumerate(piece["steps"]) if step["kind"] == "Label"}
    spot = spots[label]
    while piece["steps"][spot]["kind"] in ("Label", "Jump"):
        step = piece["steps"][spot]
        spot = spot + 1 if step["kind"] == "Label" else spots[step["label"]]
    assert piece["steps"][spot]["kind"] == "Return"
    return piece["steps"][spot]


class NamesTest(LoweringTest):
    def test_values_that_wait_and_values_that_come_by_an_out_arm(self):
        code = lowered_lines("""
            fun m a
              way w 1
              way v 2
              call g a
                out got w
                on end
              stretch
                leave v a b
              clean
            fun g n
              way got 1
              if n = 0
                leave got n
              else
        """)
        self.assertEqual({n for s in code[0]["steps"] for n in names_in(s)}, {"a", "b", "w.0", "v.0", "v.1"})
        self.assertEqual({n for s in code[1]["steps"] for n in names_in(s)}, {"n"})

    def test_a_leave_outside_has_no_names_but_its_own(self):
        code = lowered_lines("""
            fun m a
              way w 1
              leave w a
        """)
        self.assertEqual({n for s in code[0]["steps"] for n in names_in(s)}, {"a"})

    def test_one_name_for_a_variable_a_way_and_a_function(self):
        program = lines_read(*lines_of("""
            fun m m
              way m 1
              stretch
                if m = 0
                  leave m m
                else
                m = m - 1
                call m m
                  on m m
                  out end end
              clean
                m = 7
              leave m m
        """))
        code = plain(lowered(program))
        for number in (0, 1, 2, -1):
            self.assert_runs_alike(program, code, [number], 5)


class ForgottenTest(unittest.TestCase):
    LINES = """
        fun m
          call g
            on end
        fun g
          way w 0
          if 1 = 1
            leave w
          else
    """

    def test_forgotten_with_its_fields(self):
        program = lines_read(*lines_of(self.LINES))
        with self.assertRaises(Forgotten) as caught:
            lowered(program)
        self.assertEqual((caught.exception.place, caught.exception.way), (2, "w"))
        self.assertTrue(bears(program, caught.exception.chain))
        facts = [step[0] for step in caught.exception.chain]
        self.assertIn(("at", 2), facts)
        self.assertIn(("way", "g", "w"), facts)
        self.assertEqual(program.text(), "\n".join(lines_of(self.LINES)))

    def test_refused_as_judged_refuses(self):
        refused = 0
        for seed in range(200):
            program = read_program(made_text(seed, armed=False))
            try:
                judged(program)
            except Forgotten as error:
                refused += 1
                with self.assertRaises(Forgotten) as caught:
                    lowered(program)
                self.assertEqual(vars(caught.exception), vars(error))
            else:
                lowered(program)
        self.assertGreater(refused, 20)
        self.assertLess(refused, 180)


class RunsTest(LoweringTest):
    def assert_all_runs(self, text, every_numbers, fuels=range(8)):
        program = lines_read(*lines_of(text))
        code = plain(lowered(program))
        self.assert_sound(program, code)
        lasts = []
        for numbers in every_numbers:
            for fuel in fuels:
                lasts.append(self.assert_runs_alike(program, code, list(numbers), fuel).last)
        return lasts

    def test_all_kinds_of_rows(self):
        lasts = self.assert_all_runs(ALL_ROWS, [[number] for number in range(-2, 12)], range(0, 12))
        self.assertEqual({last[:2] for last in lasts}, {
            ("way", "one"), ("way", "two"), ("way", "end"), ("dry",), ("fault", "nought"),
        })

    def test_clean_up_rows_that_change_what_is_left_with(self):
        text = """
            fun m a
              way w 3
              stretch
                stretch
                  leave w a b 5
                clean
                  a = 10
                  b = a
                  say b
              clean
                a = 20
                say a
        """
        program = lines_read(*lines_of(text))
        told = stepped(plain(lowered(program)), [7], 0)
        self.assertEqual(told[:2], ([10, 20], ("way", "w", (7, 0, 5))))
        self.assert_all_runs(text, [[7]], [0])

    def test_clean_up_rows_that_change_what_a_call_hands_out(self):
        self.assert_all_runs("""
            fun m a
              way w 2
              stretch
                call g a
                  out got w
                  out end end
              clean
                a = 0
                say a
            fun g x
              way got 2
              stretch
                leave got x x
              clean
                x = 3
        """, [[5]], range(3))

    def test_faults_within_stretches_and_calls(self):
        lasts = self.assert_all_runs("""
            fun m a
              stretch
                call g a
                  on end
                    say 1
              clean
                say 2
            fun g a
              stretch
                stretch
                  x = 10 / a
                  say x
                clean
                  say 3
                x = 9999999999 * a
                x = x * x
                x = x * x
              clean
                say x
        """, [[0], [1], [-1], [10 ** 39]], range(3))
        self.assertEqual({last[:2] for last in lasts}, {("dry",), ("way", "end"), ("fault", "nought"), ("fault", "great")})

    def test_a_goal_stays_at_a_fault(self):
        self.assert_all_runs("""
            fun m a
              a = 5
              stretch
                a = a / 0
              clean
                say a
        """, [[3]], [0])

    def test_arms_again(self):
        self.assert_all_runs("""
            fun m a b
              call g a b
                again more b a
                on got x
                  say x
                on end
              say a
              say b
            fun g x y
              way more 2
              way got 1
              if x < y
                x = x + 2
                leave more y x
              else
              if x = y
              else
                leave got x
        """, [[0, 5], [5, 0], [3, 3], [-9, 9]], range(0, 30))

    def test_again_puts_values_into_the_atoms_of_the_call(self):
        self.assert_all_runs("""
            fun m
              call g x y
                again two y x
                on end
              say x
              say y
            fun g a b
              way two 2
              say a
              say b
              if 20 < a
              else
                a = a + 7
                leave two a b
        """, [[]], range(0, 12))

    def test_two_thousand_calls_in_one_another(self):
        text = """
            fun m a
              stretch
                if a = 0
                else
                  a = a - 1
                  call m a
                    on end
              clean
                say a
        """
        program = lines_read(*lines_of(text))
        code = plain(lowered(program))
        for number, fuel in ((2000, 2000), (2000, 1999), (2001, 2000)):
            self.assert_runs_alike(program, code, [number], fuel)

    def test_made_programs(self):
        lasts = {}
        for seed in SEEDS:
            chance = random.Random(seed)
            program = read_program(marked_stretches(made_text(seed)) if seed % 2 else made_text(seed))
            code = plain(lowered(program))
            for fuel in list(range(6)) + [15, 60]:
                numbers = [chance.choice([0, 1, 2, 3, -1, -7, 10 ** 39]) for _ in program.functions[0].params]
                last = self.assert_runs_alike(program, code, numbers, fuel).last
                lasts[last[0]] = lasts.get(last[0], 0) + 1
        self.assertEqual(set(lasts), {"way", "fault", "dry"})
        self.assertGreater(min(lasts.values()), 50)


if __name__ == "__main__":
    unittest.main()
