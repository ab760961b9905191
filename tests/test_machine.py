"""Runs of a layout by a machine [2], [42], [81] to [86]."""

import random
import unittest

from exitweave.errors import NoRun
from exitweave.layout import laid, read_layout
from exitweave.machine import Machine, Trip
from exitweave.reader import read_program
from exitweave.runner import run_trees
from exitweave.weave import PASSES, woven
from flat import plain, stepped
from making import made_text
from passing import read

GREATEST = int("9" * 40)


def machine_of(*lines):
    """A machine for the layout of these lines."""
    return Machine(read_layout("\n".join(lines)))


def woven_machine(program, words=()):
    return Machine(laid(woven(program, list(words))))


class MachineCase(unittest.TestCase):
    def assert_trip(self, trip, **fields):
        self.assertIs(type(trip), Trip)
        self.assertEqual(
            [type(trip.log), type(trip.last), type(trip.trace), type(trip.frames)], [list, tuple, list, int]
        )
        for field, awaited in fields.items():
            self.assertEqual(getattr(trip, field), awaited, field)


class RowsTest(MachineCase):
    def test_moves_tells_and_a_return(self):
        machine = machine_of(
            "piece f 0 2 a b 3 fault end w", "move f 7 x a", "move f 8 a -3", "tell f 9 x", "tell f 10 a", "tell f 11 nothing",
            "tell f 12 5", "return f 13 2 3 b x 1",
        )
        self.assert_trip(
            machine.run([4, 6], 0), log=[4, -3, 0, 5], last=("way", "w", (6, 4, 1)), frames=1,
            trace=[("f", number) for number in range(7, 14)],
        )

    def test_the_end_has_no_values(self):
        machine = machine_of("piece f 0 0 2 fault end", "return f 0 1 0")
        self.assert_trip(machine.run([], 0), log=[], last=("way", "end", ()), trace=[("f", 0)], frames=1)

    def test_reckonings(self):
        for sign, result in (("+", -5), ("-", -9), ("*", -14), ("/", -4)):
            machine = machine_of(
                "piece f 0 2 a b 2 fault end", f"compute f 0 x {sign} a b 3", "tell f 1 x", "return f 2 1 0", "return f 3 0 1 fault.0",
            )
            self.assert_trip(machine.run([-7, 2], 0), log=[result], last=("way", "end", ()))

    def test_faults_go_on_at_the_trap_and_the_goal_stays(self):
        machine = machine_of(
            "piece f 0 2 a b 3 fault end w", "move f 0 x 9", "compute f 1 x / a b 4", "compute f 2 x * x a 4", "return f 3 1 0",
            "tell f 4 x", "tell f 5 fault.0", "return f 6 0 1 fault.0",
        )
        trap = [("f", 4), ("f", 5), ("f", 6)]
        self.assert_trip(
            machine.run([1, 0], 0), log=[9, 0], last=("fault", "nought"), trace=[("f", 0), ("f", 1)] + trap, frames=1
        )
        self.assert_trip(
            machine.run([GREATEST, 1], 0), log=[GREATEST, 1], last=("fault", "great"),
            trace=[("f", 0), ("f", 1), ("f", 2)] + trap,
        )
        self.assert_trip(machine.run([1, 1], 0), log=[], last=("way", "end", ()))

    def test_tests(self):
        for sign, held in (("<", [(1, 2), (-3, -2)]), ("=", [(2, 2), (0, 0)])):
            machine = machine_of(
                "piece f 0 2 a b 3 fault end w", f"test f 0 {sign} a b 2", "return f 1 1 0", "return f 2 2 0",
            )
            for numbers in ((1, 2), (-3, -2), (2, 2), (0, 0), (3, 2)):
                way, row = ("end", 1) if numbers in held else ("w", 2)
                self.assert_trip(machine.run(list(numbers), 0), last=("way", way, ()), trace=[("f", 0), ("f", row)])

    def test_jumps_ahead_and_back(self):
        machine = machine_of("piece f 0 0 2 fault end", "jump f 0 2", "return f 1 1 0", "jump f 2 1")
        self.assert_trip(machine.run([], 0), trace=[("f", 0), ("f", 2), ("f", 1)])

    def test_sends_read_all_atoms_first(self):
        machine = machine_of(
            "piece f 0 2 a b 3 fault end w", "send f 0 3 a b b a c 7 2", "tell f 1 99", "return f 2 2 3 a b c",
        )
        self.assertEqual(machine_of("piece f 0 0 2 fault end", "send f 0 0 1", "return f 1 1 0").run([], 0).log, [])
        self.assert_trip(machine.run([1, 2], 0), log=[], last=("way", "w", (2, 1, 7)), trace=[("f", 0), ("f", 2)])

    def test_enters_read_then_zero_then_put(self):
        machine = machine_of(
            "piece f 0 2 a b 3 fault end w", "move f 0 c 5", "move f 1 d 6", "enter f 2 2 a b b c 3 a c d",
            "tell f 3 c", "tell f 4 d", "return f 5 2 2 a b",
        )
        self.assert_trip(machine.run([1, 2], 1), log=[0, 0], last=("way", "w", (2, 5)), frames=1)
        self.assert_trip(machine.run([1, 2], 0), log=[], last=("dry",), trace=[("f", 0), ("f", 1)], frames=1)


CALLS = (
    "piece f 0 1 a 4 fault end one two",
    "piece g 7 2 p q 4 fault end one two",
    "move f 0 p 50",
    "summon f 1 g 2 a 3 4 6 1 fault.0 - 2 2 p z 4 1 y",
    "tell f 2 p",
    "return f 3 2 3 p z a",
    "tell f 4 y",
    "return f 5 1 0",
    "return f 6 0 1 fault.0",
    "compute g 0 r / q p 11",
    "test g 1 < p 5 10",
    "return g 2 2 2 p q",
    "return g 3 3 1 r",
    "return g 4 0 1 fault.0",
)


class CallsTest(MachineCase):
    def machine(self):
        return machine_of(*CALLS)

    def test_values_are_put_by_the_goals_of_the_entry(self):
        self.assert_trip(
            self.machine().run([2], 1), log=[2], last=("way", "one", (2, 3, 2)), frames=2,
            trace=[("f", 0), ("f", 1), ("g", 0), ("g", 1), ("g", 2), ("f", 2), ("f", 3)],
        )

    def test_another_entry(self):
        self.assert_trip(
            self.machine().run([-3], 1), log=[-3], frames=2,
            trace=[("f", 0), ("f", 1), ("g", 0), ("g", 1), ("g", 2), ("f", 2), ("f", 3)],
        )
        self.assert_trip(
            self.machine().run([5], 1), log=[0], last=("way", "end", ()), frames=2,
            trace=[("f", 0), ("f", 1), ("g", 0), ("g", 1), ("g", 3), ("f", 4), ("f", 5)],
        )

    def test_a_fault_is_led_out(self):
        self.assert_trip(
            self.machine().run([0], 1), log=[], last=("fault", "nought"), frames=2,
            trace=[("f", 0), ("f", 1), ("g", 0), ("g", 4), ("f", 6)],
        )

    def test_no_fuel(self):
        self.assert_trip(self.machine().run([0], 0), log=[], last=("dry",), trace=[("f", 0)], frames=1)

    def test_the_frame_beneath_keeps_its_own_numbers(self):
        machine = machine_of(
            "piece f 0 1 a 3 fault end w", "piece g 2 1 a 2 fault end", "summon f 0 g 1 7 2 - 1 1 b",
            "return f 1 2 2 a b", "move g 0 a 8", "return g 1 1 1 a",
        )
        self.assert_trip(machine.run([5], 1), last=("way", "w", (5, 8)))

    def test_a_frame_begins_with_noughts(self):
        machine = machine_of(
            "piece f 0 0 2 fault end", "piece g 3 0 2 fault end", "summon f 0 g 0 2 - 1 0", "summon f 1 g 0 2 - 2 0",
            "return f 2 1 0", "tell g 0 x", "move g 1 x 1", "return g 2 1 0",
        )
        self.assert_trip(machine.run([], 2), log=[0, 0], frames=2)

    def test_values_are_put_in_the_frame_that_is_topmost_then(self):
        machine = machine_of(
            "piece f 0 0 3 fault end w", "piece g 3 0 2 fault end", "piece h 5 0 2 fault end",
            "move f 0 x 1", "summon f 1 g 0 2 - 2 1 y", "return f 2 2 2 x y",
            "summon g 0 h 0 2 - 4 1 x", "return g 1 1 1 x", "return h 0 1 1 7",
        )
        self.assert_trip(
            machine.run([], 2), last=("way", "w", (1, 7)), frames=3,
            trace=[("f", 0), ("f", 1), ("g", 0), ("h", 0), ("g", 1), ("f", 2)],
        )

    def test_an_entry_that_leads_to_the_first_row(self):
        machine = machine_of(
            "piece f 0 0 3 fault end w", "piece g 3 1 n 2 fault end", "test f 0 < x 3 2", "summon f 1 g 1 x 2 - 0 1 x",
            "return f 2 2 1 x", "compute g 0 n + n 1 5", "return g 1 1 1 n", "return g 2 0 1 fault.0",
        )
        self.assert_trip(machine.run([], 9), last=("way", "w", (3,)), frames=2)
        self.assert_trip(machine.run([], 2), last=("dry",), frames=2)

    def test_values_go_to_goals_in_their_order_even_over_atoms(self):
        machine = machine_of(
            "piece f 0 0 3 fault end w", "piece g 2 0 3 fault end w", "summon f 0 g 0 3 - - 1 3 x y z", "return f 1 2 3 z y x",
            "return g 0 2 3 1 2 3",
        )
        self.assert_trip(machine.run([], 1), last=("way", "w", (3, 2, 1)))


class HandonsTest(MachineCase):
    LINES = (
        "piece f 0 1 a 3 fault end w",
        "piece g 3 1 a 4 fault end one two",
        "piece h 4 1 a 3 fault end w",
        "summon f 0 g 1 a 4 - 1 1 x 2 1 y 1 1 z",
        "return f 1 2 3 x y z",
        "return f 2 2 3 y z x",
        "handon g 0 h 1 a 3 -1 3 2",
        "test h 0 < a 5 6",
        "return h 1 1 1 a",
        "return h 2 2 1 a",
    )

    def test_the_table_is_put_anew(self):
        machine = machine_of(*self.LINES)
        # h's end is g's two, whose entry puts z; h's w is g's one, whose entry puts y and leads to row 2.
        self.assert_trip(
            machine.run([3], 2), last=("way", "w", (0, 0, 3)), frames=2,
            trace=[("f", 0), ("g", 0), ("h", 0), ("h", 1), ("f", 1)],
        )
        self.assert_trip(
            machine.run([7], 2), last=("way", "w", (7, 0, 0)), frames=2,
            trace=[("f", 0), ("g", 0), ("h", 0), ("h", 2), ("f", 2)],
        )

    def test_fuel(self):
        machine = machine_of(*self.LINES)
        self.assert_trip(machine.run([3], 1), last=("dry",), trace=[("f", 0)], frames=2)
        self.assert_trip(machine.run([3], 0), last=("dry",), trace=[], frames=1)

    def test_the_table_of_the_first_frame_is_handed_on(self):
        machine = machine_of(
            "piece f 0 1 a 4 fault end v w", "piece g 1 1 b 3 fault end w", "handon f 0 g 1 a 3 0 3 2", "test g 0 < b 1 3",
            "return g 1 1 2 b 1", "compute g 2 b / 1 b 5", "return g 3 2 0", "return g 4 0 1 fault.0",
        )
        self.assert_trip(machine.run([-1], 1), last=("way", "w", (-1, 1)), frames=1)
        self.assert_trip(machine.run([1], 1), last=("way", "v", ()), frames=1)

    def test_a_fault_through_a_table_handed_on(self):
        machine = machine_of(
            "piece f 0 0 3 fault end w", "piece g 1 0 2 fault end", "handon f 0 g 0 2 0 -1", "compute g 0 x / 1 0 2",
            "return g 1 0 1 fault.0",
        )
        self.assert_trip(machine.run([], 1), last=("fault", "nought"), trace=[("f", 0), ("g", 0), ("g", 1)], frames=1)

    def test_the_new_frame_begins_with_noughts(self):
        machine = machine_of(
            "piece f 0 1 a 3 fault end w", "piece g 2 1 b 2 fault end", "move f 0 x 5", "handon f 1 g 1 x 2 0 2",
            "return g 0 1 3 a b x",
        )
        self.assert_trip(machine.run([3], 1), last=("way", "w", (0, 5, 0)), frames=1)

    def test_two_thousand_handons_have_one_frame(self):
        machine = machine_of(
            "piece f 0 1 a 2 fault end", "test f 0 < 0 a 3", "compute f 1 a - a 1 4", "handon f 2 f 1 a 2 0 1",
            "return f 3 1 0", "return f 4 0 1 fault.0",
        )
        self.assert_trip(machine.run([2000], 2000), last=("way", "end", ()), frames=1)
        self.assert_trip(machine.run([2000], 1999), last=("dry",), frames=1)


class FuelTest(MachineCase):
    LINES = (
        "piece f 0 1 a 3 fault end w", "test f 0 < 0 a 3", "compute f 1 a - a 1 5", "summon f 2 f 1 a 3 5 1 fault.0 3 0 -",
        "tell f 3 a", "return f 4 1 0", "return f 5 0 1 fault.0",
    )

    def test_just_enough_and_one_less(self):
        machine = machine_of(*self.LINES)
        for count in (0, 1, 2, 7):
            self.assert_trip(
                machine.run([count], count), log=[0] + list(range(count)), last=("way", "end", ()), frames=count + 1
            )
            if count:
                trip = machine.run([count], count - 1)
                self.assert_trip(trip, log=[], last=("dry",), frames=count)
                self.assertEqual(trip.trace, [("f", 0), ("f", 1), ("f", 2)] * (count - 1) + [("f", 0), ("f", 1)])

    def test_two_thousand_frames_in_one_another(self):
        machine = machine_of(*self.LINES)
        trip = machine.run([2000], 2000)
        self.assert_trip(trip, log=[0] + list(range(2000)), last=("way", "end", ()), frames=2001)
        self.assert_trip(machine.run([2001], 2000), log=[], last=("dry",), frames=2001)

    def test_a_row_at_which_the_run_is_dry_is_not_done(self):
        for line in ("summon f 1 f 0 2 - -", "handon f 1 f 0 2 0 1", "enter f 1 0 1 x"):
            machine = machine_of("piece f 0 0 2 fault end", "move f 0 x 1", line, "jump f 2 0")
            self.assert_trip(machine.run([], 0), last=("dry",), trace=[("f", 0)], frames=1)
            trip = machine.run([], 3)
            self.assert_trip(trip, last=("dry",))
            self.assertEqual(trip.trace.count(("f", 1)), 3)
            self.assertEqual(trip.trace[-1], ("f", 0))


class AgainTest(MachineCase):
    def test_each_run_begins_anew(self):
        machine = machine_of(*FuelTest.LINES)
        first = machine.run([3], 3)
        kept = (list(first.log), first.last, list(first.trace), first.frames)
        machine.run([9], 2)
        machine.run([0], 0)
        again = machine.run([3], 3)
        self.assertEqual((again.log, again.last, again.trace, again.frames), kept)
        self.assertEqual((first.log, first.last, first.trace, first.frames), kept)

    def test_lists_of_a_trip_are_the_askers_own(self):
        machine = machine_of(*FuelTest.LINES)
        first = machine.run([3], 3)
        kept = (list(first.log), list(first.trace))
        first.log.append("more")
        first.trace.clear()
        again = machine.run([3], 3)
        self.assertEqual((again.log, again.trace), kept)

    def test_what_a_trip_is_made_of_it_keeps(self):
        log, trace = [1], [("f", 0)]
        trip = Trip(log=log, last=("dry",), trace=trace, frames=1)
        self.assertIs(trip.log, log)
        self.assertIs(trip.trace, trace)
        self.assertEqual((trip.last, trip.frames), (("dry",), 1))

    def test_numbers_handed_in_stay(self):
        numbers = [3]
        machine = machine_of(*FuelTest.LINES)
        machine.run(numbers, 3)
        self.assertEqual(numbers, [3])

    def test_the_layout_stays(self):
        layout = read_layout("\n".join(FuelTest.LINES))
        Machine(layout).run([3], 3)
        self.assertEqual(layout.text(), "\n".join(FuelTest.LINES))


class NoRunTest(MachineCase):
    def assert_refused(self, machine, numbers, fuel, given):
        with self.assertRaises(NoRun) as caught:
            machine.run(numbers, fuel)
        self.assertIs(caught.exception.given, given)

    def test_numbers(self):
        machine = machine_of("piece f 0 2 a b 2 fault end", "return f 0 1 0")
        wrong = [
            None, 7, "12", (1, 2), {1: 2, 3: 4}, [], [1], [1, 2, 3], [1, True], [False, 1], [1, None], [1, "2"], [1, (2,)],
            [1, [2]], [1, 10 ** 40], [-10 ** 40, 1], [1, 2.0],
        ]
        for numbers in wrong:
            self.assert_refused(machine, numbers, 5, numbers)
            for fuel in (-1, 2001, None, True):
                self.assert_refused(machine, numbers, fuel, numbers)
        for numbers in ([1, 2], [0, -1], [GREATEST, -GREATEST]):
            self.assert_trip(machine.run(numbers, 0), last=("way", "end", ()))

    def test_no_parameters(self):
        machine = machine_of("piece f 0 0 2 fault end", "piece g 1 1 a 2 fault end", "return f 0 1 0", "return g 0 1 0")
        for numbers in ([0], (), None, ""):
            self.assert_refused(machine, numbers, 5, numbers)
        self.assert_trip(machine.run([], 5), last=("way", "end", ()))

    def test_fuel(self):
        machine = machine_of("piece f 0 1 a 2 fault end", "return f 0 1 0")
        for fuel in (-1, 2001, 10 ** 50, True, False, None, "5", [5], (5,), 5.0):
            self.assert_refused(machine, [1], fuel, fuel)
        for fuel in (0, 1, 2000):
            self.assert_trip(machine.run([1], fuel), last=("way", "end", ()))

    def test_a_refused_run_changes_nothing(self):
        machine = machine_of(*FuelTest.LINES)
        ahead = machine.run([3], 3)
        self.assert_refused(machine, "numbers", 5, "numbers")
        self.assert_refused(machine, [1], "fuel", "fuel")
        again = machine.run([3], 3)
        self.assertEqual((again.log, again.last, again.trace, again.frames), (ahead.log, ahead.last, ahead.trace, ahead.frames))


class ProgramsTest(MachineCase):
    def assert_runs(self, program, code, numbers, fuel):
        machine = Machine(laid(code))
        trip = machine.run(numbers, fuel)
        run = run_trees(program, numbers, fuel)
        told = stepped(plain(code), numbers, fuel)
        self.assertEqual((trip.log, trip.last), (run.log, run.last))
        self.assertEqual((trip.log, trip.last, trip.trace, trip.frames), told)
        self.assertLessEqual(trip.frames, 1 + len([mark for mark in run.marks if mark[0] == "call"]))
        return trip

    def test_made_programs_behind_passes(self):
        lasts = {}
        for seed in range(300):
            chance = random.Random(seed)
            program = read_program(made_text(seed))
            code = woven(program, [chance.choice(PASSES) for _ in range(chance.randint(0, 8))])
            for fuel in (0, 1, 2, 3, 7, 40):
                numbers = [chance.choice([0, 1, 2, 3, -1, 10 ** 39]) for _ in program.functions[0].params]
                trip = self.assert_runs(program, code, numbers, fuel)
                lasts[trip.last[0]] = lasts.get(trip.last[0], 0) + 1
        self.assertGreater(min(lasts.values()), 30)
        self.assertEqual(len(lasts), 3)

    def test_a_layout_that_was_read(self):
        for seed in range(60):
            program = read_program(made_text(seed))
            layout = laid(woven(program, ["hand", "place", "thread", "drop"]))
            numbers = [seed % 5 for _ in program.functions[0].params]
            one = Machine(layout).run(numbers, 20)
            other = Machine(read_layout(layout.text())).run(numbers, 20)
            self.assertEqual((one.log, one.last, one.trace, one.frames), (other.log, other.last, other.trace, other.frames))

    def test_two_thousand_calls_in_one_another(self):
        program = read("""
            fun m a
              way w 1
              stretch
                if 0 < a
                  a = a - 1
                  call m a
                    out w w
                    out end end
                else
                  leave w a
              clean
                say a
        """)
        for words in ([], ["hand", "place", "thread", "drop"]):
            for number, fuel in ((2000, 2000), (2000, 1999)):
                trip = woven_machine(program, words).run([number], fuel)
                run = run_trees(program, [number], fuel)
                self.assertEqual((trip.log, trip.last), (run.log, run.last))
                self.assertEqual(trip.frames, fuel + 1)


if __name__ == "__main__":
    unittest.main()
