"""Facts, chains, ways found, arms in vain, and what is forgotten [2], [8], [20] to [27]."""

import unittest

from examples import lines_of, lines_read, told_program
from exitweave.errors import Forgotten
from exitweave.looker import Looker, bears, judged
from exitweave.reader import read_program
from exitweave.trees import Call, Function, On, Out, Program, Say, walk_rows
from making import made_text
from oracles import all_facts, all_steps

TEXT = """\
fun main a
  way bad 1
  if a < 0
    leave bad a
  else
    stretch
      call help a
        on got x
          say x
        out none bad
        again more a
        again end
    clean
      say 0
  say a
fun help n
  way got 1
  way none 1
  way more 1
  n = n - 1
  if n = 0
    leave got n
  else
    if n < 5
    else
      leave more n
  leave none n
fun idle
  leave end
  say 1"""

# All steps of TEXT, those that rest on what is no fact, too.
STEPS = [
    (("in", 1, 0), "body", ()),
    (("at", 3), "first", (("in", 1, 0),)),
    (("in", 3, 0), "branch", (("at", 3),)),
    (("in", 3, 1), "branch", (("at", 3),)),
    (("at", 4), "first", (("in", 3, 0),)),
    (("way", "main", "bad"), "leave", (("at", 4),)),
    (("through", 3, 0), "next", (("past", 4),)),
    (("past", 3), "join", (("through", 3, 0),)),
    (("at", 6), "first", (("in", 3, 1),)),
    (("in", 6, 0), "stretch", (("at", 6),)),
    (("at", 7), "first", (("in", 6, 0),)),
    (("in", 8, 0), "on", (("at", 7), ("way", "help", "got"))),
    (("at", 9), "first", (("in", 8, 0),)),
    (("past", 9), "plain", (("at", 9),)),
    (("through", 8, 0), "next", (("past", 9),)),
    (("past", 7), "back", (("through", 8, 0),)),
    (("way", "main", "bad"), "out", (("at", 7), ("way", "help", "none"))),
    (("through", 6, 0), "next", (("past", 7),)),
    (("past", 6), "join", (("through", 6, 0),)),
    (("through", 3, 1), "next", (("past", 6),)),
    (("past", 3), "join", (("through", 3, 1),)),
    (("at", 15), "next", (("past", 3),)),
    (("past", 15), "plain", (("at", 15),)),
    (("through", 1, 0), "next", (("past", 15),)),
    (("way", "main", "end"), "end", (("through", 1, 0),)),
    (("in", 16, 0), "body", ()),
    (("at", 20), "first", (("in", 16, 0),)),
    (("past", 20), "plain", (("at", 20),)),
    (("at", 21), "next", (("past", 20),)),
    (("in", 21, 0), "branch", (("at", 21),)),
    (("at", 22), "first", (("in", 21, 0),)),
    (("way", "help", "got"), "leave", (("at", 22),)),
    (("through", 21, 0), "next", (("past", 22),)),
    (("past", 21), "join", (("through", 21, 0),)),
    (("in", 21, 1), "branch", (("at", 21),)),
    (("at", 24), "first", (("in", 21, 1),)),
    (("in", 24, 0), "branch", (("at", 24),)),
    (("through", 24, 0), "first", (("in", 24, 0),)),
    (("past", 24), "join", (("through", 24, 0),)),
    (("in", 24, 1), "branch", (("at", 24),)),
    (("at", 26), "first", (("in", 24, 1),)),
    (("way", "help", "more"), "leave", (("at", 26),)),
    (("through", 24, 1), "next", (("past", 26),)),
    (("past", 24), "join", (("through", 24, 1),)),
    (("through", 21, 1), "next", (("past", 24),)),
    (("past", 21), "join", (("through", 21, 1),)),
    (("at", 27), "next", (("past", 21),)),
    (("way", "help", "none"), "leave", (("at", 27),)),
    (("through", 16, 0), "next", (("past", 27),)),
    (("way", "help", "end"), "end", (("through", 16, 0),)),
    (("in", 28, 0), "body", ()),
    (("at", 29), "first", (("in", 28, 0),)),
    (("way", "idle", "end"), "leave", (("at", 29),)),
    (("at", 30), "next", (("past", 29),)),
    (("past", 30), "plain", (("at", 30),)),
    (("through", 28, 0), "next", (("past", 30),)),
    (("way", "idle", "end"), "end", (("through", 28, 0),)),
]

NO_FACTS = [
    ("past", 4), ("through", 3, 0), ("past", 22), ("through", 21, 0), ("past", 26), ("through", 24, 1), ("past", 27),
    ("through", 16, 0), ("way", "help", "end"), ("past", 29), ("at", 30), ("past", 30), ("through", 28, 0),
]

FACTS = {fact for fact, rule, premises in STEPS} - set(NO_FACTS)

STRANGE = [
    (), ("at",), ("at", 0), ("at", 1), ("at", 2), ("at", 5), ("at", 8), ("at", 13), ("at", 14), ("at", 999), ("at", -3),
    ("at", "3"), ("at", 3, 0), ("at", (3,)), ("past",), ("past", 14), ("in", 1), ("in", 1, 1), ("in", 2, 0), ("in", 6, 1),
    ("in", 10, 0), ("in", 11, 0), ("in", 13, 0), ("in", 1, 0, 0), ("through", 1), ("through", 13, 0), ("way",),
    ("way", "main"), ("way", "main", "fault"), ("way", "help", "fault"), ("way", "main", "got"), ("way", "none", "end"),
    ("way", "main", 0), ("way", 1, "end"), ("fact", 3), (3, "at"), ("", ""), (("at", 3),), ((), ()), (0,), ("fault", "main"),
]


class LookerTest(unittest.TestCase):
    def assert_bearing(self, program, chain, wanted):
        """The chain bears all facts wanted, each fact once, and has nothing that is not needed for them."""
        self.assertIs(type(chain), list)
        self.assertTrue(bears(program, chain))
        facts = [step[0] for step in chain]
        self.assertEqual(len(facts), len(set(facts)))
        steps = all_steps(program)
        for spot, step in enumerate(chain):
            self.assertIs(type(step), tuple)
            self.assertIn(step, steps)
            self.assertLessEqual(set(step[2]), set(facts[:spot]))
            later = [premise for other in chain[spot + 1:] for premise in other[2]]
            self.assertIn(step[0], wanted + later)
        self.assertLessEqual(set(wanted), set(facts))


class FactsTest(LookerTest):
    def test_the_least_set_by_the_rules(self):
        program = read_program(TEXT)
        chain = Looker(program).facts()
        facts = [step[0] for step in chain]
        self.assertEqual(set(facts), FACTS)
        self.assertEqual(len(facts), len(FACTS))
        for spot, step in enumerate(chain):
            self.assertIn(step, STEPS)
            self.assertLessEqual(set(step[2]), set(facts[:spot]))
        self.assertTrue(bears(program, chain))

    def test_the_kinds_of_what_is_told(self):
        for step in Looker(read_program(TEXT)).facts():
            self.assertIs(type(step), tuple)
            self.assertEqual(len(step), 3)
            fact, rule, premises = step
            self.assertEqual([type(fact), type(rule), type(premises)], [tuple, str, tuple])
            for premise in premises:
                self.assertIs(type(premise), tuple)

    def test_small_programs(self):
        cases = [
            (["fun m"], [
                (("in", 1, 0), "body", ()), (("through", 1, 0), "first", (("in", 1, 0),)),
                (("way", "m", "end"), "end", (("through", 1, 0),)),
            ]),
            (["fun m", "  leave end"], [
                (("in", 1, 0), "body", ()), (("at", 2), "first", (("in", 1, 0),)),
                (("way", "m", "end"), "leave", (("at", 2),)),
            ]),
            (["fun m", "  stretch", "  clean", "    say 1"], [
                (("in", 1, 0), "body", ()), (("at", 2), "first", (("in", 1, 0),)),
                (("in", 2, 0), "stretch", (("at", 2),)), (("through", 2, 0), "first", (("in", 2, 0),)),
                (("past", 2), "join", (("through", 2, 0),)), (("through", 1, 0), "next", (("past", 2),)),
                (("way", "m", "end"), "end", (("through", 1, 0),)),
            ]),
            (["fun m", "  call m", "    on end"], [
                (("in", 1, 0), "body", ()), (("at", 2), "first", (("in", 1, 0),)),
            ]),
            (["fun m", "  call m"], [
                (("in", 1, 0), "body", ()), (("at", 2), "first", (("in", 1, 0),)),
            ]),
            (["fun m", "  call n", "    on end", "fun n"], [
                (("in", 1, 0), "body", ()), (("at", 2), "first", (("in", 1, 0),)),
                (("in", 4, 0), "body", ()), (("through", 4, 0), "first", (("in", 4, 0),)),
                (("way", "n", "end"), "end", (("through", 4, 0),)),
                (("in", 3, 0), "on", (("at", 2), ("way", "n", "end"))), (("through", 3, 0), "first", (("in", 3, 0),)),
                (("past", 2), "back", (("through", 3, 0),)), (("through", 1, 0), "next", (("past", 2),)),
                (("way", "m", "end"), "end", (("through", 1, 0),)),
            ]),
        ]
        for lines, steps in cases:
            self.assertEqual(sorted(Looker(lines_read(*lines)).facts(), key=repr), sorted(steps, key=repr), lines)

    def test_an_again_brings_nothing(self):
        looker = Looker(lines_read("fun m", "  call n", "    again end", "  say 1", "fun n"))
        self.assertEqual(looker.found("m"), [])
        self.assertIs(looker.at(2), True)
        self.assertIs(looker.at(4), False)

    def test_each_kind_of_row_in_order(self):
        looker = Looker(lines_read("fun m", "  x = 1", "  x = 1 + 1", "  say x", "  leave end", "  say 2"))
        rules = {step[0]: step[1] for step in looker.facts()}
        self.assertEqual([rules.get(("past", place)) for place in (2, 3, 4, 5, 6)], ["plain"] * 3 + [None] * 2)
        self.assertEqual([rules.get(("at", place)) for place in (2, 3, 4, 5, 6)], ["first"] + ["next"] * 3 + [None])

    def test_functions_that_call_themselves_and_one_another(self):
        first = lines_of("""
            fun m a
              way w 0
              if a = 0
                leave w
              else
                call n a
                  out v w
                  on end
        """)
        second = ["  call m b", "    out w v", "    on end", "      call n b", "        out v end"]
        for rows, of_first, of_second in (
            ([], ["w"], ["v"]),
            (["  if b < 0", "    leave end", "  else"], ["end", "w"], ["end", "v"]),
        ):
            program = lines_read(*first, "fun n b", "  way v 0", *rows, *second)
            looker = Looker(program)
            self.assertEqual({step[0] for step in looker.facts()}, all_facts(program))
            self.assertEqual((looker.found("m"), looker.found("n")), (of_first, of_second))

    def test_ways_that_hang_on_one_another_alone_are_none(self):
        looker = Looker(lines_read(
            "fun m", "  way w 0", "  call n", "    out v w", "fun n", "  way v 0", "  call m", "    out w v",
        ))
        self.assertEqual((looker.found("m"), looker.found("n")), ([], []))

    def test_clean_up_rows_have_no_facts(self):
        for seed in range(20):
            program = read_program(made_text(seed))
            facts = {step[0] for step in Looker(program).facts()}
            for function in program.functions:
                for row in walk_rows(function.rows):
                    for clean in getattr(row, "clean", []):
                        self.assertNotIn(("at", clean.place), facts)
                        self.assertNotIn(("past", clean.place), facts)

    def test_trees_that_were_not_read(self):
        program = told_program()
        self.assertEqual({step[0] for step in Looker(program).facts()}, all_facts(program))

    def test_programs_that_were_made(self):
        for seed in range(250):
            program = read_program(made_text(seed, armed=seed % 2 == 0))
            looker = Looker(program)
            chain = looker.facts()
            facts = [step[0] for step in chain]
            steps = all_steps(program)
            self.assertEqual(set(facts), all_facts(program))
            self.assertEqual(len(facts), len(set(facts)))
            self.assertLessEqual(set(chain), steps)
            self.assertTrue(bears(program, chain))
            for fact, rule, premises in steps:
                if set(premises) <= set(facts):
                    self.assertIn(fact, facts)

    def test_a_program_as_great_as_it_may_be(self):
        lines = []
        for number in range(40):
            name = "f" + "abcdefghij"[number // 10] + "abcdefghij"[number % 10]
            following = "f" + "abcdefghij"[(number + 1) // 10] + "abcdefghij"[(number + 1) % 10]
            lines += ["fun " + name, "  way w 0", "  stretch"]
            if number < 39:
                lines += ["    call " + following, "      out w w", "      on end"]
            else:
                lines += ["    leave w"]
            lines += ["  clean", "    say 1"]
        program = lines_read(*lines)
        looker = judged(program)
        self.assertEqual(looker.found("faa"), ["w"])
        chain = looker.chain_for(("way", "faa", "w"))
        self.assert_bearing(program, chain, [("way", "faa", "w")])
        self.assertEqual(chain[-1][1], "out")


class BearsTest(LookerTest):
    def setUp(self):
        self.program = read_program(TEXT)
        self.chain = Looker(self.program).facts()

    def test_each_step_of_the_program(self):
        for step in STEPS:
            self.assertIs(bears(self.program, self.chain + [step]), set(step[2]) <= FACTS, step)
            self.assertIs(bears(self.program, [step]), step[2] == ())
            self.assertIs(bears(self.program, [step] + self.chain), step[2] == (), step)

    def test_the_rules_told_a_second_time_tell_the_same_steps(self):
        self.assertEqual(all_steps(self.program), set(STEPS))
        self.assertEqual(all_facts(self.program), FACTS)

    def test_the_chain_without_steps(self):
        self.assertIs(bears(self.program, []), True)

    def test_beginnings_of_a_chain(self):
        for count in range(len(self.chain)):
            self.assertIs(bears(self.program, self.chain[:count]), True)

    def test_a_step_left_out(self):
        for spot, step in enumerate(self.chain):
            rest = self.chain[:spot] + self.chain[spot + 1:]
            needed = any(step[0] in other[2] for other in rest)
            self.assertIs(bears(self.program, rest), not needed)

    def test_a_step_put_twice(self):
        for spot, step in enumerate(self.chain):
            self.assertIs(bears(self.program, self.chain[:spot] + [step] + self.chain[spot:]), True)
            self.assertIs(bears(self.program, self.chain + [step]), True)

    def test_another_order(self):
        self.assertIs(bears(self.program, list(reversed(self.chain))), False)
        for spot in range(len(self.chain) - 1):
            one, other = self.chain[spot], self.chain[spot + 1]
            swapped = self.chain[:spot] + [other, one] + self.chain[spot + 2:]
            self.assertIs(bears(self.program, swapped), one[0] not in other[2])

    def test_another_rule(self):
        rules = ["body", "first", "next", "plain", "leave", "branch", "stretch", "join", "on", "back", "out", "end"]
        for spot, (fact, rule, premises) in enumerate(self.chain):
            for other in rules + ["", "again", "fault", "Body", "in"]:
                changed = self.chain[:spot] + [(fact, other, premises)] + self.chain[spot + 1:]
                self.assertIs(bears(self.program, changed), other == rule or (fact, other, premises) in STEPS)

    def test_other_premises(self):
        for spot, (fact, rule, premises) in enumerate(self.chain):
            others = [premises + premises[:1] if premises else (("in", 1, 0),), premises[1:] if premises else ((),)]
            if len(premises) == 2:
                others += [(premises[1], premises[0]), premises[:1], premises + (("in", 1, 0),)]
            for other in others:
                if other != premises:
                    changed = self.chain[:spot] + [(fact, rule, other)] + self.chain[spot + 1:]
                    self.assertIs(bears(self.program, changed), False, (fact, rule, other))

    def test_facts_that_are_none(self):
        for fact in NO_FACTS + STRANGE:
            for rule, premises in (("plain", ()), ("body", ()), ("next", (("in", 1, 0),))):
                self.assertIs(bears(self.program, self.chain + [(fact, rule, premises)]), False, (fact, rule))

    def test_things_that_are_no_steps(self):
        for thing in (
            ("", "", ""), (0, 0, 0), ((), (), ()), ("at", 3, 0), ("in", 1, 0), (("in", 1, 0), "body", ("in", 1, 0)),
            (("in", 1, 0), "body", "body"), (("in", 1, 0), "body", 0), ("body", ("in", 1, 0), ()),
            ((), "body", (("in", 1, 0), "body", ())), (("in", 1, 0), ("body",), ()), (("in", "1", 0), "body", ()),
            (("in", 1, 0), 0, ()), (("at", 3), "first", ("in", 1, 0)), ((("in", 1, 0),), "body", ()),
        ):
            self.assertIs(bears(self.program, [thing]), False, thing)
            self.assertIs(bears(self.program, self.chain + [thing]), False, thing)
            self.assertIs(bears(self.program, [thing] + self.chain), False, thing)

    def test_steps_of_another_program(self):
        other = lines_read("fun m", "  say 1", "  say 2")
        self.assertIs(bears(other, Looker(other).facts()), True)
        self.assertIs(bears(self.program, Looker(other).facts()), False)
        self.assertIs(bears(other, self.chain), False)

    def test_an_arm_again_and_the_clean_up_rows_have_no_steps(self):
        for step in (
            (("in", 11, 0), "on", (("at", 7), ("way", "help", "more"))),
            (("at", 7), "again", (("at", 7), ("way", "help", "more"))),
            (("past", 7), "back", (("at", 7), ("way", "help", "more"))),
            (("past", 14), "plain", (("at", 14),)),
            (("in", 6, 1), "stretch", (("at", 6),)),
            (("at", 14), "first", (("in", 6, 1),)),
            (("way", "main", "fault"), "out", (("at", 7), ("way", "help", "fault"))),
        ):
            self.assertIs(bears(self.program, self.chain + [step]), False)

    def test_asking_changes_nothing(self):
        before = list(self.chain)
        bears(self.program, self.chain)
        self.assertEqual(self.chain, before)
        self.assertEqual(self.program.text(), TEXT)


class FoundTest(LookerTest):
    def test_ways_found(self):
        looker = Looker(read_program(TEXT))
        self.assertEqual(looker.found("main"), ["end", "bad"])
        self.assertEqual(looker.found("help"), ["got", "none", "more"])
        self.assertEqual(looker.found("idle"), ["end"])

    def test_the_order_is_that_of_the_ways(self):
        lines = ["fun m a", "  way z 0", "  way m 0", "  way a 0"]
        for way in ("a", "z", "m"):
            lines += ["  if a = 0", "    leave " + way, "  else"]
        self.assertEqual(Looker(lines_read(*lines)).found("m"), ["end", "z", "m", "a"])

    def test_fault_is_never_found(self):
        looker = Looker(lines_read("fun m", "  x = 1 / 0", "  call n", "    on end", "fun n", "  x = 1 / 0"))
        self.assertEqual((looker.found("m"), looker.found("n")), (["end"], ["end"]))

    def test_numbers_are_not_asked(self):
        looker = Looker(lines_read("fun m", "  way w 0", "  way v 0", "  if 0 = 1", "    leave w", "  else", "    leave v"))
        self.assertEqual(looker.found("m"), ["w", "v"])

    def test_one_name_for_a_way_of_several_functions(self):
        looker = Looker(lines_read("fun m", "  way w 0", "fun n", "  way w 0", "  leave w"))
        self.assertEqual((looker.found("m"), looker.found("n")), (["end"], ["w"]))

    def test_rows_come_to(self):
        looker = Looker(read_program(TEXT))
        come_to = [3, 4, 6, 7, 9, 15, 20, 21, 22, 24, 26, 27, 29]
        for place in range(-2, 40):
            self.assertIs(looker.at(place), place in come_to, place)

    def test_arms_in_vain(self):
        self.assertEqual(Looker(read_program(TEXT)).in_vain(), [12])
        self.assertEqual(Looker(lines_read("fun m")).in_vain(), [])
        behind_a_leave = lines_of("""
            fun m
              leave end
              call n
                on end
                  call n
                    out end end
            fun n
        """)
        self.assertEqual(Looker(lines_read(*behind_a_leave)).in_vain(), [4, 6])
        lines = lines_of("""
            fun m
              way w 0
              way v 0
              call m
                on v
                  call n
                    out end end
                out w end
                again end
              leave v
            fun n
              call n
                again end
        """)
        self.assertEqual(Looker(lines_read(*lines)).in_vain(), [5, 7, 8, 9, 13])

    def test_arms_in_vain_rise_whatever_the_order_of_the_rows(self):
        arms = [Out(9, "w", "end"), On(5, "v", [], [Call(7, "n", [], [Out(8, "end", "end")])])]
        program = Program([Function(20, "m", [], [], [Call(4, "n", [], arms)]), Function(1, "n", [], [("w", 0), ("v", 0)], [])])
        self.assertEqual(Looker(program).in_vain(), [5, 8, 9])

    def test_an_arm_is_in_vain_where_the_way_is_not_found(self):
        for seed in range(100):
            program = read_program(made_text(seed, armed=seed % 3 == 0))
            facts = all_facts(program)
            looker = Looker(program)
            vain = []
            for function in program.functions:
                found = [way for way in function.all_ways() if ("way", function.name, way) in facts]
                self.assertEqual(looker.found(function.name), found)
                for row in walk_rows(function.rows):
                    self.assertIs(looker.at(row.place), ("at", row.place) in facts)
                    for arm in getattr(row, "arms", []):
                        if ("at", row.place) not in facts or ("way", row.callee, arm.way) not in facts:
                            vain.append(arm.place)
            self.assertEqual(looker.in_vain(), sorted(vain))


class ChainForTest(LookerTest):
    def test_each_fact(self):
        program = read_program(TEXT)
        looker = Looker(program)
        for fact in FACTS:
            chain = looker.chain_for(fact)
            self.assertEqual(chain[-1][0], fact)
            self.assert_bearing(program, chain, [fact])

    def test_what_is_no_fact(self):
        looker = Looker(read_program(TEXT))
        for fact in NO_FACTS + STRANGE:
            self.assertIsNone(looker.chain_for(fact), fact)

    def test_a_chain_with_one_step(self):
        looker = Looker(read_program(TEXT))
        self.assertEqual(looker.chain_for(("in", 16, 0)), [(("in", 16, 0), "body", ())])
        first = [(("in", 28, 0), "body", ()), (("at", 29), "first", (("in", 28, 0),))]
        self.assertEqual(looker.chain_for(("at", 29)), first)

    def test_programs_that_were_made(self):
        for seed in range(60):
            program = read_program(made_text(seed, armed=False))
            looker = Looker(program)
            facts = all_facts(program)
            for fact in sorted(facts, key=repr)[::7]:
                chain = looker.chain_for(fact)
                self.assertEqual(chain[-1][0], fact)
                self.assert_bearing(program, chain, [fact])
            for step in all_steps(program):
                if step[0] not in facts:
                    self.assertIsNone(looker.chain_for(step[0]))


class ForgottenTest(LookerTest):
    def assert_forgets(self, program, place, way):
        looker = Looker(program)
        self.assertEqual(looker.forgotten(), (place, way))
        self.assertIs(type(looker.forgotten()), tuple)
        with self.assertRaises(Forgotten) as caught:
            judged(program)
        error = caught.exception
        self.assertEqual((error.place, error.way), (place, way))
        call = [row for function in program.functions for row in walk_rows(function.rows) if row.place == place][0]
        self.assert_bearing(program, error.chain, [("at", place), ("way", call.callee, way)])

    def assert_let_by(self, program):
        self.assertIsNone(Looker(program).forgotten())
        looker = judged(program)
        self.assertIs(type(looker), Looker)
        self.assertEqual(looker.facts(), Looker(program).facts())

    def test_nothing_forgotten(self):
        self.assert_let_by(read_program(TEXT))
        self.assert_let_by(lines_read("fun m"))
        self.assert_let_by(lines_read("fun m", "  call m"))
        self.assert_let_by(lines_read("fun m", "  call n", "    on end", "fun n"))

    def test_end_forgotten(self):
        self.assert_forgets(lines_read("fun m", "  call n", "fun n"), 2, "end")
        self.assert_forgets(lines_read("fun m", "  way w 0", "  call n", "    out w w", "fun n", "  way w 0"), 3, "end")

    def test_a_declared_way_forgotten(self):
        self.assert_forgets(lines_read("fun m", "  call n", "    on end", "fun n", "  way w 0", "  leave w"), 2, "w")
        self.assert_forgets(read_program(TEXT.replace("        again more a\n", "")), 7, "more")
        self.assert_forgets(read_program(TEXT.replace("        on got x\n          say x\n", "")), 7, "got")

    def test_each_kind_of_arm_is_one(self):
        for arm in ("on end", "out end end", "again end"):
            self.assert_let_by(lines_read("fun m", "  call n", "    " + arm, "fun n"))

    def test_fault_needs_no_arm(self):
        self.assert_let_by(lines_read("fun m", "  call n", "    on end", "fun n", "  x = 1 / 0"))

    def test_a_way_that_is_not_found_needs_no_arm(self):
        self.assert_let_by(lines_read("fun m", "  call n", "    on end", "fun n", "  way w 0", "  leave end", "  leave w"))

    def test_a_call_that_is_not_come_to_needs_no_arm(self):
        self.assert_let_by(lines_read("fun m", "  leave end", "  call n", "fun n"))
        self.assert_let_by(lines_read("fun m", "  call n", "    on end", "    on w", "      call n", "fun n", "  way w 0"))

    def test_a_call_in_a_function_that_nothing_calls(self):
        self.assert_forgets(lines_read("fun m", "fun n", "  call m"), 3, "end")

    def test_the_first_call_by_its_place(self):
        lines = lines_of("""
            fun m
              if 0 = 0
                call n
              else
                call n
              call n
            fun n
        """)
        self.assert_forgets(lines_read(*lines), 3, "end")
        lines = lines_of("""
            fun m
              call n
                on end
              call n
              call n
            fun n
        """)
        self.assert_forgets(lines_read(*lines), 4, "end")
        lines = ["fun m", "  call n", "    on end", "      call n", "fun n"]
        self.assert_forgets(lines_read(*lines), 4, "end")

    def test_the_first_call_by_its_place_whatever_the_order_of_the_rows(self):
        program = Program([
            Function(10, "m", [], [], [Call(12, "n", [], [On(13, "end", [], [Call(11, "n", [], [])])]), Call(15, "n", [], [])]),
            Function(1, "n", [], [], [Say(2, 0)]),
        ])
        self.assert_forgets(program, 11, "end")

    def test_the_first_way_in_the_order_of_the_ways(self):
        called = ["fun n a", "  way z 0", "  way m 0", "  way b 0"]
        for way in ("b", "m", "z"):
            called += ["  if a = 0", "    leave " + way, "  else"]
        for armed, awaited in (
            ([], "end"), (["end"], "z"), (["m", "end"], "z"), (["z", "end"], "m"), (["m", "z", "end"], "b"),
            (["z", "m", "b"], "end"),
        ):
            arms = ["    on " + way for way in armed]
            self.assert_forgets(lines_read("fun m", "  call n 0", *arms, *called), 2, awaited)

    def test_the_chain_bears_both_also_where_one_rests_on_the_other(self):
        self.assert_forgets(lines_read("fun m a", "  if a = 0", "  else", "    call m a"), 4, "end")
        self.assert_forgets(lines_read("fun m a", "  way w 0", "  if a = 0", "    leave w", "  else", "  call m a"), 6, "w")
        lines = ["fun m", "  call n", "    on end", "      call n", "fun n"]
        self.assert_forgets(lines_read(*lines), 4, "end")

    def test_programs_that_were_made(self):
        forgetting = 0
        for seed in range(300):
            program = read_program(made_text(seed, armed=False))
            facts = all_facts(program)
            lacking = []
            for function in program.functions:
                for row in walk_rows(function.rows):
                    if isinstance(row, Call) and ("at", row.place) in facts:
                        for spot, way in enumerate(program.function(row.callee).all_ways()):
                            if ("way", row.callee, way) in facts and way not in [arm.way for arm in row.arms]:
                                lacking.append((row.place, spot, way))
            if lacking:
                forgetting += 1
                self.assert_forgets(program, min(lacking)[0], min(lacking)[2])
            else:
                self.assert_let_by(program)
        self.assertGreater(forgetting, 20)
        for seed in range(50):
            self.assert_let_by(read_program(made_text(seed)))


class AskedAgainTest(LookerTest):
    def test_lists_told_are_new_ones(self):
        looker = Looker(read_program(TEXT))
        for tell in (
            looker.facts, looker.in_vain, lambda: looker.found("main"), lambda: looker.chain_for(("way", "main", "end")),
        ):
            first = tell()
            before = list(first)
            self.assertEqual(tell(), before)
            self.assertIsNot(tell(), first)
            first.clear()
            self.assertEqual(tell(), before)
        self.assertEqual(looker.found("help"), ["got", "none", "more"])
        self.assertEqual(looker.chain_for(("at", 999)), None)

    def test_the_same_answers_of_two_lookers(self):
        for seed in range(20):
            text = made_text(seed, armed=False)
            one, other = Looker(read_program(text)), Looker(read_program(text))
            self.assertEqual(one.facts(), other.facts())
            self.assertEqual(one.forgotten(), other.forgotten())
            for fact, rule, premises in one.facts():
                self.assertEqual(one.chain_for(fact), other.chain_for(fact))

    def test_nothing_handed_in_is_changed(self):
        program = read_program(TEXT)
        looker = Looker(program)
        looker.facts()
        looker.in_vain()
        looker.forgotten()
        judged(program)
        self.assertEqual(program.text(), TEXT)

    def test_what_is_refused_changes_nothing(self):
        program = lines_read("fun m", "  call n", "fun n")
        for _ in range(2):
            with self.assertRaises(Forgotten) as caught:
                judged(program)
            chain = caught.exception.chain
            self.assertEqual(len(chain), 5)
            chain.clear()
        self.assertEqual(program.text(), "fun m\n  call n\nfun n")


if __name__ == "__main__":
    unittest.main()
