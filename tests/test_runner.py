"""Whole runs of programs as they stand [2], [5] to [7], [8], [27], [32] to [39]."""

import sys
import unittest

from examples import lines_of, lines_read
from exitweave.errors import Forgotten, NoRun
from exitweave.looker import Looker
from exitweave.reader import read_program
from exitweave.runner import Run, run_trees
from making import made_text
from oracles import Teller

GREATEST = int("9" * 40)


class RunnerTest(unittest.TestCase):
    def run_of(self, lines, numbers=(), fuel=100):
        return run_trees(lines_read(*lines), list(numbers), fuel)

    def assert_run(self, lines, numbers=(), fuel=100, **fields):
        run = self.run_of(lines, numbers, fuel)
        for field, awaited in fields.items():
            self.assertEqual(getattr(run, field), awaited, field)
        self.assertEqual([type(run.log), type(run.last), type(run.marks)], [list, tuple, list])
        self.assert_told_alike(lines_read(*lines), list(numbers), fuel)
        return run

    def assert_told_alike(self, program, numbers, fuel):
        run = run_trees(program, numbers, fuel)
        self.assertEqual((run.log, run.last, run.marks), Teller(program, fuel).told(numbers))
        return run


class RowsTest(RunnerTest):
    def test_nothing_to_do(self):
        self.assert_run(["fun m"], log=[], last=("way", "end", ()), marks=[("way", "m", "end")])

    def test_the_first_function_is_run(self):
        self.assert_run(["fun m", "  say 1", "fun n", "  say 2"], log=[1])

    def test_parameters_and_other_variables(self):
        self.assert_run(["fun m a b", "  say a", "  say b", "  say c"], [7, -3], log=[7, -3, 0])

    def test_copies(self):
        self.assert_run(
            lines_of("""
                fun m a
                  x = 5
                  y = x
                  x = a
                  a = -1
                  say x
                  say y
                  say a
                  z = z
                  say z
            """),
            [9], log=[9, 5, -1, 0],
        )

    def test_reckonings(self):
        self.assert_run(
            lines_of("""
                fun m a b
                  x = a + b
                  say x
                  x = a - b
                  say x
                  x = a * b
                  say x
                  x = a / b
                  say x
                  a = a + a
                  say a
                  y = 2 * 3
                  say y
            """),
            [-7, 2], log=[-5, -9, -14, -4, -14, 6],
        )

    def test_sayings(self):
        self.assert_run(lines_of("""
            fun m a
              say 1
              say a
              say -2
              say a
              say 0
        """), [1], log=[1, 1, -2, 1, 0])

    def test_ifs(self):
        for sign, numbers, awaited in (
            ("<", [1, 2], 1), ("<", [2, 1], 2), ("<", [1, 1], 2), ("=", [1, 1], 1), ("=", [1, 2], 2), ("=", [-1, 1], 2),
        ):
            lines = ["fun m a b", f"  if a {sign} b", "    say 1", "  else", "    say 2", "  say 3"]
            self.assert_run(lines, numbers, log=[awaited, 3], marks=[("way", "m", "end")])

    def test_ifs_without_rows(self):
        lines = lines_of("""
            fun m a
              if a = 0
              else
                say 2
              if a = 0
                say 3
              else
              say 4
        """)
        self.assert_run(lines, [0], log=[3, 4])
        self.assert_run(lines, [1], log=[2, 4])

    def test_leaves(self):
        lines = lines_of("""
            fun m a
              way w 0
              way v 3
              if a = 0
                leave w
              else
              if a = 1
                leave end
              else
              leave v a 7 b
              say 1
        """)
        self.assert_run(lines, [0], last=("way", "w", ()), marks=[("way", "m", "w")], log=[])
        self.assert_run(lines, [1], last=("way", "end", ()), marks=[("way", "m", "end")], log=[])
        run = self.assert_run(lines, [2], last=("way", "v", (2, 7, 0)), marks=[("way", "m", "v")], log=[])
        self.assertIs(type(run.last[2]), tuple)

    def test_rows_behind_a_leave_are_not_done(self):
        self.assert_run(lines_of("""
            fun m
              if 0 = 0
                say 1
                leave end
                say 2
              else
              say 3
        """), log=[1])

    def test_great_numbers(self):
        for number in (GREATEST, -GREATEST):
            self.assert_run(["fun m a", "  way w 1", "  say a", "  leave w a"], [number], log=[number],
                            last=("way", "w", (number,)))


class StretchesTest(RunnerTest):
    def test_left_by_the_end(self):
        self.assert_run(
            lines_of("""
                fun m
                  stretch
                    say 1
                  clean
                    say 2
                    x = 5
                    say x
                  say 3
            """),
            log=[1, 2, 5, 3], marks=[("enter", 2), ("clean", 2), ("way", "m", "end")],
        )

    def test_nothing_in_it(self):
        marks = [("enter", 2), ("clean", 2), ("way", "m", "end")]
        self.assert_run(["fun m", "  stretch", "  clean"], log=[], marks=marks)
        self.assert_run(["fun m", "  stretch", "  clean", "    say 1"], log=[1], marks=marks)

    NESTED = lines_of("""
        fun m a
          way w 1
          stretch
            stretch
              stretch
              clean
                say 1
              if a = 1
                leave w a
              else
              if a = 2
                x = 1 / 0
              else
              if a = 3
                call n
                  out v w
              else
            clean
              say 2
              a = 7
            say 10
          clean
            say 3
            say a
          say 11
        fun n
          way v 1
          leave v 5
    """)

    def test_in_one_another_left_by_the_end(self):
        self.assert_run(
            self.NESTED, [0], log=[1, 2, 10, 3, 7, 11], last=("way", "end", ()),
            marks=[("enter", 3), ("enter", 4), ("enter", 5), ("clean", 5), ("clean", 4), ("clean", 3), ("way", "m", "end")],
        )

    def test_in_one_another_left_by_a_leave(self):
        self.assert_run(
            self.NESTED, [1], log=[1, 2, 3, 7], last=("way", "w", (1,)),
            marks=[("enter", 3), ("enter", 4), ("enter", 5), ("clean", 5), ("clean", 4), ("clean", 3), ("way", "m", "w")],
        )

    def test_in_one_another_left_by_a_fault(self):
        self.assert_run(
            self.NESTED, [2], log=[1, 2, 3, 7], last=("fault", "nought"),
            marks=[("enter", 3), ("enter", 4), ("enter", 5), ("clean", 5), ("clean", 4), ("clean", 3), ("way", "m", "fault")],
        )

    def test_in_one_another_left_by_an_out(self):
        self.assert_run(
            self.NESTED, [3], log=[1, 2, 3, 7], last=("way", "w", (5,)),
            marks=[
                ("enter", 3), ("enter", 4), ("enter", 5), ("clean", 5), ("call", "n"), ("way", "n", "v"), ("clean", 4),
                ("clean", 3), ("way", "m", "w"),
            ],
        )

    def test_in_one_another_and_dry(self):
        self.assert_run(
            self.NESTED, [3], fuel=0, log=[1], last=("dry",),
            marks=[("enter", 3), ("enter", 4), ("enter", 5), ("clean", 5)],
        )

    def test_values_are_read_ahead_of_the_clean_up_rows(self):
        self.assert_run(
            lines_of("""
                fun m a
                  way w 2
                  stretch
                    stretch
                      leave w a b
                    clean
                      a = 5
                      b = a
                  clean
                    a = 6
                    say b
            """),
            [1], log=[5], last=("way", "w", (1, 0)),
        )

    def test_the_values_of_an_out_are_those_of_the_way(self):
        self.assert_run(
            lines_of("""
                fun m
                  way w 1
                  stretch
                    call n 3
                      out v w
                  clean
                    a = 8
                    say a
                fun n a
                  way v 1
                  stretch
                    leave v a
                  clean
                    a = 9
                    say a
            """),
            log=[9, 8], last=("way", "w", (3,)),
        )

    def test_a_stretch_that_was_not_entered_is_not_cleaned(self):
        self.assert_run(
            lines_of("""
                fun m
                  if 0 = 1
                    stretch
                    clean
                      say 1
                  else
                  leave end
                  stretch
                  clean
                    say 2
            """),
            log=[], marks=[("way", "m", "end")],
        )

    def test_a_stretch_in_an_arm(self):
        self.assert_run(
            lines_of("""
                fun m
                  stretch
                    call n
                      on end
                        stretch
                          leave end
                        clean
                          say 1
                  clean
                    say 2
                fun n
            """),
            log=[1, 2], marks=[("enter", 2), ("call", "n"), ("way", "n", "end"), ("enter", 5), ("clean", 5), ("clean", 2),
                               ("way", "m", "end")],
        )

    def test_a_stretch_round_a_call_is_cleaned_once_where_the_call_is_done_again(self):
        self.assert_run(
            lines_of("""
                fun m a
                  stretch
                    call n a
                      again more a
                      on end
                  clean
                    say a
                fun n b
                  way more 1
                  stretch
                    if b = 0
                    else
                      c = b - 1
                      leave more c
                  clean
                    say 100
            """),
            [2], log=[100, 100, 100, 0],
            marks=[("enter", 2)] + [("call", "n"), ("enter", 10), ("clean", 10), ("way", "n", "more")] * 2
            + [("call", "n"), ("enter", 10), ("clean", 10), ("way", "n", "end"), ("clean", 2), ("way", "m", "end")],
        )


class CallsTest(RunnerTest):
    def test_an_on(self):
        self.assert_run(
            lines_of("""
                fun m
                  a = 4
                  call n a 5
                    on w x y
                      say x
                      say y
                      say a
                    on end
                  say 9
                fun n b a
                  way w 2
                  c = a - b
                  leave w c a
            """),
            log=[1, 5, 4, 9], marks=[("call", "n"), ("way", "n", "w"), ("way", "m", "end")],
        )

    def test_an_on_puts_the_values_in_their_order(self):
        self.assert_run(
            lines_of("""
                fun m a b
                  call n
                    on w b a
                  say a
                  say b
                  call n
                    on w a b
                  say a
                  say b
                fun n
                  way w 2
                  leave w 1 2
            """),
            [3, 4], log=[2, 1, 1, 2], last=("way", "end", ()),
        )

    def test_an_on_by_end(self):
        self.assert_run(lines_of("""
            fun m
              call n
                on end
                  say 2
              say 3
            fun n
              say 1
        """), log=[1, 2, 3])

    def test_the_arm_of_the_way_is_taken(self):
        lines = lines_of("""
            fun m a
              way w 1
              call n a
                on one
                  say 1
                on two x
                  say x
                out far w
                on end
                  say 4
              say 5
            fun n a
              way two 1
              way far 1
              way one 0
              if a = 1
                leave one
              else
              if a = 2
                leave two 22
              else
              if a = 3
                leave far 33
              else
        """)
        self.assert_run(lines, [1], log=[1, 5], last=("way", "end", ()))
        self.assert_run(lines, [2], log=[22, 5], last=("way", "end", ()))
        self.assert_run(lines, [3], log=[], last=("way", "w", (33,)))
        self.assert_run(lines, [4], log=[4, 5], last=("way", "end", ()))

    def test_an_out(self):
        self.assert_run(
            lines_of("""
                fun m
                  way w 2
                  call n
                    out v w
                  say 1
                fun n
                  way v 2
                  leave v 3 4
            """),
            log=[], last=("way", "w", (3, 4)), marks=[("call", "n"), ("way", "n", "v"), ("way", "m", "w")],
        )

    def test_an_out_by_end_and_to_end(self):
        self.assert_run(["fun m", "  way w 0", "  call n", "    out end w", "fun n"], last=("way", "w", ()))
        self.assert_run(lines_of("""
            fun m
              call n
                out w end
            fun n
              way w 0
              leave w
        """), last=("way", "end", ()))

    def test_outs_through_several_functions(self):
        self.assert_run(
            lines_of("""
                fun m
                  way a 1
                  call n
                    out b a
                fun n
                  way b 1
                  stretch
                    call k
                      out c b
                  clean
                    say 1
                fun k
                  way c 1
                  leave c 6
            """),
            log=[1], last=("way", "a", (6,)),
            marks=[("call", "n"), ("enter", 7), ("call", "k"), ("way", "k", "c"), ("clean", 7), ("way", "n", "b"), ("way", "m", "a")],
        )

    def test_an_again_reads_its_atoms_anew(self):
        self.assert_run(
            lines_of("""
                fun m a
                  b = 10
                  call n a b
                    again more a b
                    on end
                  say a
                  say b
                fun n x y
                  way more 2
                  say x
                  say y
                  if x = 0
                    leave end
                  else
                  x = x - 1
                  y = y * 2
                  leave more x y
            """),
            [2], log=[2, 10, 1, 20, 0, 40, 0, 40],
            marks=[("call", "n"), ("way", "n", "more")] * 2 + [("call", "n"), ("way", "n", "end"), ("way", "m", "end")],
        )

    def test_an_again_that_changes_nothing_runs_dry(self):
        self.assert_run(
            ["fun m", "  call n", "    again end", "fun n", "  say 1"], fuel=3, log=[1, 1, 1], last=("dry",),
            marks=[("call", "n"), ("way", "n", "end")] * 3,
        )

    def test_variables_are_each_functions_own_and_new_each_time(self):
        self.assert_run(
            lines_of("""
                fun m
                  x = 1
                  call n
                    on end
                  call n
                    on end
                  say x
                fun n
                  say x
                  x = 5
                  say x
            """),
            log=[0, 5, 0, 5, 1],
        )
        self.assert_run(
            lines_of("""
                fun m a
                  x = a
                  if a = 0
                  else
                    b = a - 1
                    call m b
                      on end
                  say x
            """),
            [3], log=[0, 1, 2, 3],
        )

    def test_a_call_in_an_arm(self):
        self.assert_run(
            lines_of("""
                fun m
                  call n 1
                    on w x
                      call n x
                        on w y
                          say x
                          say y
                  say 9
                fun n a
                  way w 1
                  a = a + 1
                  leave w a
            """),
            log=[2, 3, 9], marks=[("call", "n"), ("way", "n", "w")] * 2 + [("way", "m", "end")],
        )

    def test_an_again_behind_calls_in_the_function_called(self):
        self.assert_run(
            lines_of("""
                fun m
                  call n x
                    again more x
                    on end
                  say x
                fun n a
                  way more 1
                  call k a
                    on end
                      leave end
                    on w b
                      leave more b
                fun k a
                  way w 1
                  if a = 2
                  else
                    a = a + 1
                    leave w a
            """),
            log=[2],
        )

    def test_the_function_meant_is_the_called_one(self):
        self.assert_run(
            lines_of("""
                fun m
                  call k
                    on end
                fun n
                  say 1
                fun k
                  say 2
            """),
            log=[2], marks=[("call", "k"), ("way", "k", "end"), ("way", "m", "end")],
        )


class FaultsTest(RunnerTest):
    def test_nought(self):
        self.assert_run(["fun m a", "  x = a / 0", "  say 1"], [5], log=[], last=("fault", "nought"), marks=[("way", "m", "fault")])

    def test_great(self):
        self.assert_run(["fun m a", "  x = a + 1", "  say 1"], [GREATEST], log=[], last=("fault", "great"))
        self.assert_run(["fun m a", "  x = a - 1", "  say 1"], [-GREATEST], log=[], last=("fault", "great"))
        self.assert_run(["fun m a", "  x = a * a", "  say 1"], [10 ** 20], log=[], last=("fault", "great"))
        self.assert_run(["fun m a", "  x = a * a", "  say x"], [10 ** 19], log=[10 ** 38], last=("way", "end", ()))

    def test_the_goal_stays_as_it_was(self):
        self.assert_run(["fun m a", "  stretch", "    a = a / 0", "  clean", "    say a"], [5], log=[5], last=("fault", "nought"))
        self.assert_run(["fun m a", "  stretch", "    a = a * a", "  clean", "    say a"], [10 ** 39], log=[10 ** 39])

    def test_through_several_calls_and_stretches(self):
        for divisor, word in ((0, "nought"), (1, "great")):
            run = self.assert_run(
                lines_of("""
                    fun m a
                      way w 1
                      stretch
                        call n a
                          on end
                            say 50
                          out v w
                        say 51
                      clean
                        say 1
                      say 52
                    fun n a
                      way v 1
                      stretch
                        stretch
                          call k a
                            again end
                        clean
                          say 2
                      clean
                        say 3
                      leave v 5
                    fun k a
                      stretch
                        if a = 0
                          x = 7 / a
                        else
                          x = 999999999999
                          x = x * x
                          x = x * x
                          leave end
                      clean
                        say 4
                """),
                [divisor], log=[4, 2, 3, 1], last=("fault", word),
            )
            self.assertEqual(run.marks, [
                ("enter", 3), ("call", "n"), ("enter", 14), ("enter", 15), ("call", "k"), ("enter", 24), ("clean", 24),
                ("way", "k", "fault"), ("clean", 15), ("clean", 14), ("way", "n", "fault"), ("clean", 3), ("way", "m", "fault"),
            ])

    def test_a_fault_behind_some_rows(self):
        self.assert_run(["fun m", "  say 1", "  x = 0 / 0", "  say 2"], log=[1], last=("fault", "nought"))

    def test_a_way_is_left_by_before_a_fault_is_come_to(self):
        self.assert_run(["fun m", "  leave end", "  x = 0 / 0"], last=("way", "end", ()))


class FuelTest(RunnerTest):
    LINES = lines_of("""
        fun m a
          stretch
            call n a
              again more a
              on end
            call n 0
              on end
              on more x
          clean
            say 9
        fun n b
          way more 1
          say b
          if b = 0
          else
            b = b - 1
            leave more b
    """)

    def test_just_enough_and_one_less(self):
        for number in range(5):
            needed = number + 2
            marks = [("call", "n"), ("way", "n", "more")] * number + [("call", "n"), ("way", "n", "end")] * 2
            log = list(range(number, -1, -1)) + [0]
            for fuel in (needed, needed + 1, 2000):
                self.assert_run(self.LINES, [number], fuel, log=log + [9], last=("way", "end", ()),
                                marks=[("enter", 2)] + marks + [("clean", 2), ("way", "m", "end")])
            for fuel in range(needed):
                self.assert_run(self.LINES, [number], fuel, log=log[:fuel], last=("dry",), marks=[("enter", 2)] + marks[:2 * fuel])

    def test_no_fuel(self):
        self.assert_run(["fun m", "  say 1"], fuel=0, log=[1], last=("way", "end", ()))
        self.assert_run(["fun m", "  say 1", "  call m", "    on end", "  say 2"], fuel=0, log=[1], last=("dry",), marks=[])

    def test_the_beginning_takes_none(self):
        self.assert_run(["fun m", "  call n", "    on end", "fun n"], fuel=1, last=("way", "end", ()))

    def test_an_again_without_fuel_puts_its_values_and_nothing_more(self):
        self.assert_run(
            lines_of("""
                fun m
                  stretch
                    call n
                      again w x
                  clean
                    say x
                fun n
                  way w 1
                  leave w 3
            """),
            fuel=1, log=[], last=("dry",), marks=[("enter", 2), ("call", "n"), ("way", "n", "w")],
        )

    def test_dry_within_calls(self):
        self.assert_run(
            lines_of("""
                fun m
                  stretch
                    call n
                      on end
                  clean
                    say 1
                fun n
                  stretch
                    call k
                      on end
                  clean
                    say 2
                fun k
                  say 3
            """),
            fuel=1, log=[], last=("dry",), marks=[("enter", 2), ("call", "n"), ("enter", 8)],
        )

    def test_a_call_that_is_not_come_to_takes_none(self):
        self.assert_run(
            lines_of("""
                fun m a
                  if a = 0
                  else
                    call n
                      on end
                fun n
            """), [0], fuel=0, last=("way", "end", ()),
        )


class RefusedTest(RunnerTest):
    FORGETTING = ["fun m a", "  call n", "fun n"]

    def assert_no_run(self, given, lines, numbers, fuel):
        with self.subTest(numbers=numbers, fuel=fuel):
            with self.assertRaises(NoRun) as caught:
                run_trees(lines_read(*lines), numbers, fuel)
            self.assertIs(type(caught.exception), NoRun)
            self.assertIs(caught.exception.given, given)

    def test_forgotten_first(self):
        for numbers, fuel in (([1], 5), ([], 5), (None, 5), ([1], -1), ("x", "y"), ([True], True)):
            with self.assertRaises(Forgotten) as caught:
                run_trees(lines_read(*self.FORGETTING), numbers, fuel)
            error = caught.exception
            self.assertEqual((error.place, error.way), (2, "end"))
            self.assertEqual({step[0] for step in error.chain} & {("at", 2), ("way", "n", "end")}, {("at", 2), ("way", "n", "end")})

    def test_a_call_that_no_run_with_these_numbers_comes_to_is_forgotten_too(self):
        with self.assertRaises(Forgotten):
            self.run_of(["fun m a", "  if a = 0", "    call n", "  else", "fun n"], [1])

    def test_numbers_that_are_no_list_of_so_many(self):
        two = ["fun m a b"]
        for numbers in (None, 0, "12", (1, 2), {1: 2, 2: 3}, True, [], [1], [1, 2, 3], [[1, 2]], "", range(2), {1, 2}):
            self.assert_no_run(numbers, two, numbers, 5)
        for numbers in ((), None, 0, [0], "", {}):
            self.assert_no_run(numbers, ["fun m"], numbers, 5)

    def test_numbers_that_are_none(self):
        for thing in (True, False, "1", None, 1.0, (1,), [1], "", 1.5, b"1"):
            for numbers in ([thing, 1], [1, thing]):
                self.assert_no_run(numbers, ["fun m a b"], numbers, 5)

    def test_forty_and_forty_one_figures(self):
        for number in (GREATEST, -GREATEST, 10 ** 39, 0):
            self.assertEqual(self.run_of(["fun m a b", "  say a", "  say b"], [number, 1]).log, [number, 1])
            self.assertEqual(self.run_of(["fun m a b", "  say a", "  say b"], [1, number]).log, [1, number])
        for number in (GREATEST + 1, -GREATEST - 1, 10 ** 60):
            for numbers in ([number, 1], [1, number]):
                self.assert_no_run(numbers, ["fun m a b"], numbers, 5)

    def test_fuel(self):
        for fuel in (0, 1, 1999, 2000):
            self.assertEqual(self.run_of(["fun m"], [], fuel).last, ("way", "end", ()))
        for fuel in (-1, 2001, True, False, None, "5", 1.0, [5], (5,), -2000, 10 ** 50):
            self.assert_no_run(fuel, ["fun m"], [], fuel)

    def test_the_numbers_stand_ahead_of_the_fuel(self):
        for fuel in (-1, 2001, True, None):
            for numbers in (None, [1, 2], [True], [GREATEST + 1]):
                self.assert_no_run(numbers, ["fun m a"], numbers, fuel)
            self.assert_no_run(fuel, ["fun m a"], [1], fuel)


class DeepTest(RunnerTest):
    LINES = lines_of("""
        fun m n
          way up 1
          stretch
            if n = 0
              leave up n
            else
            k = n - 1
            stretch
              call m k
                on up x
                  x = x + 1
                  leave up x
            clean
              say n
          clean
            x = 0
            say -1
    """)

    def setUp(self):
        self.limit = sys.getrecursionlimit()
        self.addCleanup(sys.setrecursionlimit, self.limit)

    def run_of(self, lines, numbers=(), fuel=100):
        program = lines_read(*lines)
        # Some hundred calls of Python's own within one another have to do.
        sys.setrecursionlimit(300)
        run = run_trees(program, list(numbers), fuel)
        sys.setrecursionlimit(self.limit)
        return run

    def test_two_thousand_calls_within_one_another(self):
        run = self.run_of(self.LINES, [2000], 2000)
        self.assertEqual(run.last, ("way", "up", (2000,)))
        says = [-1]
        for number in range(1, 2001):
            says += [number, -1]
        self.assertEqual(run.log, says)
        marks = [("enter", 3), ("enter", 8), ("call", "m")] * 2000 + [("enter", 3), ("clean", 3), ("way", "m", "up")]
        marks += [("clean", 8), ("clean", 3), ("way", "m", "up")] * 2000
        self.assertEqual(run.marks, marks)

    def test_one_call_more_is_dry(self):
        for number, fuel in ((2001, 2000), (2000, 1999), (10 ** 39, 2000)):
            run = self.run_of(self.LINES, [number], fuel)
            self.assertEqual((run.log, run.last), ([], ("dry",)))
            self.assertEqual(run.marks, [("enter", 3), ("enter", 8), ("call", "m")] * fuel + [("enter", 3), ("enter", 8)])

    def test_outs_and_faults_through_two_thousand_calls(self):
        lines = lines_of("""
            fun m n
              way up 1
              if n = 0
                n = 5 / x
              else
              if n = 1
                leave up 77
              else
              k = n - 2
              stretch
                call m k
                  out up up
              clean
                say n
        """)
        run = self.run_of(lines, [4000], 2000)
        self.assertEqual((run.last, run.log), (("fault", "nought"), list(range(2, 4001, 2))))
        self.assertEqual(run.marks[-2:], [("clean", 10), ("way", "m", "fault")])
        run = self.run_of(lines, [4001], 2000)
        self.assertEqual((run.last, run.log), (("way", "up", (77,)), list(range(3, 4002, 2))))
        self.assertEqual(run.marks.count(("way", "m", "up")), 2001)

    def test_two_thousand_calls_done_again(self):
        lines = lines_of("""
            fun m a
              call n a
                again more a
                on end
              say a
            fun n b
              way more 1
              if b = 1
              else
                b = b - 1
                leave more b
        """)
        self.assertEqual(self.run_of(lines, [2000], 2000).last, ("way", "end", ()))
        self.assertEqual(self.run_of(lines, [2000], 1999).last, ("dry",))

    def test_lines_as_deep_as_they_may_be(self):
        lines = ["fun m n", "  way up 0"]
        for depth in range(1, 14):
            lines.append("  " * depth + "stretch")
        lines += ["  " * 14 + "leave up"]
        for depth in range(13, 0, -1):
            lines += ["  " * depth + "clean", "  " * (depth + 1) + "say " + str(depth)]
        run = self.run_of(lines, [1])
        self.assertEqual(run.log, list(range(13, 0, -1)))
        self.assertEqual(run.marks, [("enter", place) for place in range(3, 16)]
                         + [("clean", place) for place in range(15, 2, -1)] + [("way", "m", "up")])


class PromisesTest(RunnerTest):
    """Runs of programs that were made: held against runs by Python's own calls, and against [8], [27], [39]."""

    def assert_promises(self, program, run):
        looker = Looker(program)
        entered = []
        for mark in run.marks:
            if mark[0] == "way":
                self.assertIn(mark[2], looker.found(mark[1]) + ["fault"])
            elif mark[0] == "enter":
                self.assertTrue(looker.at(mark[1]))
                entered.append(mark[1])
            elif mark[0] == "clean":
                self.assertEqual(entered.pop(), mark[1])
        if run.last != ("dry",):
            self.assertEqual(entered, [])
            self.assertEqual(run.marks[-1][:2], ("way", program.functions[0].name))

    def test_runs(self):
        lasts = {}
        for seed in range(250):
            program = read_program(made_text(seed))
            count = len(program.functions[0].params)
            for fuel in (0, 1, 5, 60):
                for numbers in ([0] * count, [seed % 7 - 3] * count, [3, -GREATEST, 1][:count]):
                    run = self.assert_told_alike(program, numbers, fuel)
                    self.assert_promises(program, run)
                    self.assertLessEqual(len([mark for mark in run.marks if mark[0] == "call"]), fuel)
                    lasts[run.last[0]] = lasts.get(run.last[0], 0) + 1
        self.assertEqual(sorted(lasts), ["dry", "fault", "way"])
        self.assertGreater(min(lasts.values()), 50)


class RunTest(RunnerTest):
    def test_fields_are_kept_as_they_are(self):
        log, last, marks = [1], ("dry",), [("call", "m")]
        run = Run(log, last, marks)
        self.assertIs(run.log, log)
        self.assertIs(run.last, last)
        self.assertIs(run.marks, marks)
        self.assertEqual(vars(Run(log=log, last=last, marks=marks)), {"log": log, "last": last, "marks": marks})

    def test_runs_are_new_each_time(self):
        program = lines_read("fun m a", "  stretch", "    say a", "  clean")
        one, other = run_trees(program, [4], 5), run_trees(program, [4], 5)
        self.assertIs(type(one), Run)
        self.assertEqual((one.log, one.last, one.marks), (other.log, other.last, other.marks))
        one.log.clear()
        one.marks.append("more")
        self.assertEqual(other.log, [4])
        again = run_trees(program, [4], 5)
        self.assertEqual((again.log, again.marks), (other.log, other.marks))

    def test_nothing_handed_in_is_changed(self):
        lines = lines_of("""
            fun m a b
              a = 5
              b = a + b
              call m a b
                on end
              say b
        """)
        program = lines_read(*lines)
        numbers = [1, 2]
        run = run_trees(program, numbers, 3)
        self.assertEqual(numbers, [1, 2])
        self.assertEqual(program.text(), "\n".join(lines))
        before = (list(run.log), run.last, list(run.marks))
        numbers.clear()
        self.assertEqual((run.log, run.last, run.marks), before)

    def test_what_is_refused_changes_nothing(self):
        program = lines_read("fun m a", "  say a")
        numbers = [True]
        with self.assertRaises(NoRun):
            run_trees(program, numbers, 5)
        self.assertEqual(numbers, [True])
        self.assertEqual(run_trees(program, [3], 5).log, [3])


if __name__ == "__main__":
    unittest.main()
