"""Passes chosen, both runs [2], [91] to [95], and what holds over the whole program [8], [52], [63], [68], [86]."""

import random
import unittest

from exitweave.code import Code
from exitweave.errors import Doubled, Forgotten, NoPass, NoProgram, NoRun, TooMuch, Unknown, WrongCount
from exitweave.hand import handed
from exitweave.layout import laid, read_layout
from exitweave.lower import lowered
from exitweave.machine import Machine, Trip
from exitweave.placing import placed
from exitweave.reader import read_program
from exitweave.runner import Run, run_trees
from exitweave.threading import dropped, threaded, went
from exitweave.weave import both, gone, woven
from flat import dropped_plain, handed_plain, marks_in, placed_plain, plain, threaded_plain
from making import made_text, marked_stretches
from passing import is_left_of, read

PASSES = {"hand": handed, "place": placed, "thread": threaded, "drop": dropped}
RULES = {"hand": handed_plain, "place": placed_plain, "thread": threaded_plain, "drop": dropped_plain}
NUMBERS = [0, 1, 2, 3, -1, -7, 10 ** 39]
FORGETS = "fun m a\n  call g\nfun g"


def chosen(seed, most=8):
    chance = random.Random(seed)
    return [chance.choice(list(PASSES)) for _ in range(chance.randint(0, most))]


class NoPassTest(unittest.TestCase):
    def assert_refused(self, words, given):
        program = read_program("fun m")
        forgets = read_program(FORGETS)
        asked = [
            lambda: woven(program, words), lambda: gone(program, words), lambda: both("fun m", words, [], 0),
            # Also where other refusals are due behind it.
            lambda: woven(forgets, words), lambda: gone(forgets, words), lambda: both(FORGETS, words, None, None),
        ]
        for ask in asked:
            with self.assertRaises(NoPass) as caught:
                ask()
            self.assertIs(caught.exception.given, given)

    def test_no_list(self):
        for thing in (None, "hand", ("hand",), {"hand": 1}, {"hand"}, 0, True, object(), 8):
            self.assert_refused(thing, thing)

    def test_nine_things(self):
        for words in (["hand"] * 9, ["drop", "thread", "place"] * 3, [None] * 9, ["x"] * 20):
            self.assert_refused(words, words)

    def test_the_first_thing_that_is_no_word(self):
        things = (
            "", "Hand", "hand ", " hand", "hands", "han", "HAND", "hand\n", None, 0, 1, True, -1, 2.5, b"hand", [], ["hand"], (),
            ("hand",), {}, {"hand": 1}, {"hand"}, object(), "weave", "lower", len,
        )
        for thing in things:
            self.assert_refused([thing], thing)
            self.assert_refused(["hand", "drop", thing, "place"], thing)
            self.assert_refused(["hand", thing, "no", None], thing)
            self.assert_refused(["drop"] * 7 + [thing], thing)

    def test_a_row_that_is_refused_stays_as_it_was(self):
        words = ["hand", "x", "drop"]
        self.assert_refused(words, words[1])
        self.assertEqual(words, ["hand", "x", "drop"])

    def test_none_and_eight_words_are_let_by(self):
        program = read_program("fun m\n  say 1")
        for words in ([], ["hand"], ["drop"] * 8, ["hand", "place", "thread", "drop"] * 2):
            woven(program, words)
            self.assertEqual([word for word, _ in gone(program, words)], words)
            self.assertEqual(both("fun m\n  say 1", words, [], 0)[1].log, [1])


class WovenTest(unittest.TestCase):
    def test_no_pass_is_the_lowered_program(self):
        for seed in range(30):
            program = read_program(made_text(seed))
            told = woven(program, [])
            self.assertIs(type(told), Code)
            self.assertEqual(plain(told), plain(lowered(program)))

    def test_each_pass_by_its_word(self):
        for seed in range(60):
            program = read_program(made_text(seed))
            for word, done in PASSES.items():
                self.assertEqual(plain(woven(program, [word])), plain(done(lowered(program))))

    def test_one_pass_behind_the_other(self):
        for seed in range(150):
            program = read_program(made_text(seed))
            words = chosen(seed)
            code = plain(lowered(program))
            for word in words:
                code = RULES[word](code)
            self.assertEqual(plain(woven(program, words)), code, words)
            self.assertEqual(plain(woven(program, words)), code, words)

    def test_the_order_counts(self):
        program = read("""
            fun m a
              call g a
                out end end
              say 1
            fun g b
              say b
        """)
        codes = [plain(woven(program, words)) for words in (["hand", "place"], ["place", "hand"])]
        self.assertNotEqual(codes[0], codes[1])

    def test_forgotten(self):
        program = read_program(FORGETS)
        for words in ([], ["hand"], ["drop"] * 8):
            for ask in (woven, gone):
                with self.assertRaises(Forgotten) as caught:
                    ask(program, words)
                self.assertEqual((caught.exception.place, caught.exception.way), (2, "end"))

    def test_the_program_and_the_row_stay_as_they_were(self):
        for seed in range(30):
            program = read_program(made_text(seed))
            words = chosen(seed)
            kept = list(words)
            woven(program, words)
            gone(program, words)
            both(made_text(seed), words, [1] * len(program.functions[0].params), 5)
            self.assertEqual(program.text(), made_text(seed))
            self.assertEqual(words, kept)


class GoneTest(unittest.TestCase):
    def test_for_each_pass_of_the_row(self):
        some = 0
        for seed in range(150):
            program = read_program(made_text(seed))
            words = chosen(seed)
            codes = [woven(program, words[:count]) for count in range(len(words) + 1)]
            awaited = [(word, went(one, other)) for word, one, other in zip(words, codes, codes[1:])]
            told = gone(program, words)
            self.assertEqual(told, awaited)
            for one, other, pair in zip(codes, codes[1:], told):
                self.assertEqual((type(pair), type(pair[1])), (tuple, list))
                self.assertEqual(pair[1], sorted(set(marks_in(plain(one))) - set(marks_in(plain(other)))))
                some += len(pair[1]) > 0
        self.assertGreater(some, 50)

    def test_by_hand(self):
        program = read("""
            fun m a
              if a = 0
              else
            fun g
        """)
        told = gone(program, ["hand", "place", "thread", "drop", "drop"])
        self.assertEqual([word for word, _ in told], ["hand", "place", "thread", "drop", "drop"])
        self.assertEqual([marks for word, marks in told if word != "drop"], [[], [], []])
        self.assertIn(("g", 0), told[3][1])
        self.assertEqual(told[4], ("drop", []))
        self.assertEqual(gone(program, []), [])

    def test_a_new_list_each_time(self):
        program = read_program("fun m a\n  if a = 0\n  else")
        first = gone(program, ["drop"])
        kept = [(word, list(marks)) for word, marks in first]
        self.assertTrue(kept[0][1])
        first[0][1].clear()
        first.clear()
        self.assertEqual(gone(program, ["drop"]), kept)


class BothTest(unittest.TestCase):
    TEXT = "fun m a\n  way w 1\n  call g a\n    out got w\n    on end\n  say a\nfun g b\n  way got 1\n  if b < 3\n    leave got b\n  else"

    def test_a_tuple_of_both_runs(self):
        told = both(self.TEXT, ["hand", "drop"], [5], 3)
        self.assertIs(type(told), tuple)
        self.assertEqual([type(one) for one in told], [Run, Trip])
        self.assertEqual((told[0].log, told[0].last), ([5], ("way", "end", ())))
        self.assertEqual((told[1].log, told[1].last), ([5], ("way", "end", ())))
        self.assertEqual(told[0].marks, [("call", "g"), ("way", "g", "end"), ("way", "m", "end")])
        self.assertEqual(told[1].frames, 2)

    def test_both_are_the_runs_told_elsewhere(self):
        for seed in range(60):
            program = read_program(made_text(seed))
            words = chosen(seed)
            numbers = [seed % 4 for _ in program.functions[0].params]
            run, trip = both(made_text(seed), words, numbers, 9)
            awaited = run_trees(program, numbers, 9)
            self.assertEqual((run.log, run.last, run.marks), (awaited.log, awaited.last, awaited.marks))
            awaited = Machine(laid(woven(program, words))).run(numbers, 9)
            self.assertEqual(
                (trip.log, trip.last, trip.trace, trip.frames),
                (awaited.log, awaited.last, awaited.trace, awaited.frames),
            )

    def test_what_the_reader_refuses_comes_first(self):
        texts = [
            (None, NoProgram), ("", NoProgram), ("fun m\n say 1", NoProgram), ("fun m a b c d e", TooMuch), ("fun m a a", Doubled),
            ("fun m\n  call g", Unknown), ("fun m\n  leave end 1", WrongCount),
        ]
        for text, kind in texts:
            for words in (["x"], None, ["hand"] * 9, []):
                with self.assertRaises(kind) as caught:
                    both(text, words, None, -1)
                self.assertIs(type(caught.exception), kind)

    def test_then_no_pass_then_forgotten_then_no_run(self):
        with self.assertRaises(NoPass):
            both(FORGETS, ["x"], None, -1)
        with self.assertRaises(Forgotten) as caught:
            both(FORGETS, ["hand"], None, -1)
        self.assertEqual((caught.exception.place, caught.exception.way), (2, "end"))
        for numbers in (None, [], [1, 2], [True], (1,)):
            with self.assertRaises(NoRun) as caught:
                both(self.TEXT, ["hand"], numbers, -1)
            self.assertIs(caught.exception.given, numbers)
        for fuel in (-1, 2001, True, None):
            with self.assertRaises(NoRun) as caught:
                both(self.TEXT, ["hand"], [1], fuel)
            self.assertIs(caught.exception.given, fuel)

    def test_lists_are_new_each_time(self):
        first = both(self.TEXT, ["drop"], [5], 3)
        first[0].log.clear()
        first[1].log.clear()
        first[1].trace.clear()
        again = both(self.TEXT, ["drop"], [5], 3)
        self.assertEqual((again[0].log, again[1].log), ([5], [5]))
        self.assertTrue(again[1].trace)


class WholeTest(unittest.TestCase):
    def trips(self, program, words, numbers, fuel):
        """The machine's trips behind each beginning of the row of passes."""
        return [
            Machine(laid(woven(program, words[:count]))).run(numbers, fuel) for count in range(len(words) + 1)
        ]

    def assert_whole(self, program, words, numbers, fuel):
        run = run_trees(program, numbers, fuel)
        begun = len([mark for mark in run.marks if mark[0] == "call"])
        trips = self.trips(program, words, numbers, fuel)
        for trip in trips:
            self.assertEqual((trip.log, trip.last), (run.log, run.last), (words, numbers, fuel))
            self.assertLessEqual(trip.frames, 1 + begun)
        for ahead, behind in zip(trips, trips[1:]):
            self.assertTrue(is_left_of(behind.trace, ahead.trace), (words, numbers, fuel))
            self.assertLessEqual(behind.frames, ahead.frames)
        return run, trips

    def test_made_programs(self):
        shorter = fewer = 0
        for seed in range(250):
            chance = random.Random(seed)
            program = read_program(made_text(seed))
            for words in (chosen(seed), chosen(1000 + seed)):
                for fuel in (chance.randint(0, 3), chance.randint(4, 40)):
                    numbers = [chance.choice(NUMBERS) for _ in program.functions[0].params]
                    _, trips = self.assert_whole(program, words, numbers, fuel)
                    shorter += len(trips[-1].trace) < len(trips[0].trace)
                    fewer += trips[-1].frames < trips[0].frames
        self.assertGreater(shorter, 100)
        self.assertGreater(fewer, 50)

    def test_each_stretch_is_cleaned_once_the_one_entered_last_first(self):
        entered = 0
        for seed in range(250):
            chance = random.Random(seed)
            text = marked_stretches(made_text(seed))
            program = read_program(text)
            words = chosen(seed)
            for fuel in (2, 8, 40):
                numbers = [chance.choice(NUMBERS) for _ in program.functions[0].params]
                run, trips = self.assert_whole(program, words, numbers, fuel)
                for trip in (trips[0], trips[-1]):
                    entered += self.assert_nested(trip)
        self.assertGreater(entered, 300)

    def assert_nested(self, trip):
        entered, count = [], 0
        for number in trip.log:
            if 7000000 < number < 7001000:
                entered.append(number)
                count += 1
            elif 8000000 < number < 8001000:
                self.assertEqual(entered.pop() + 1000000, number)
        if trip.last != ("dry",):
            self.assertEqual(entered, [])
        return count

    def test_a_call_all_of_whose_arms_lead_straight_out_adds_no_frame(self):
        text = """
            fun m a
              way one 1
              way two 2
              if a = 0
                leave two a 5
              else
              if a = 1
                leave one a
              else
              a = a - 2
              call n a
                out p one
                on q x y
                  leave two x y
                on end
            fun n a
              way q 2
              way p 1
              call m a
                on one z
                  leave p z
                out two q
                out end end
        """
        program = read(text)
        for words, frames in ((["hand"], 1), (["thread", "hand"], 1), (["drop", "thread", "drop", "hand", "place"], 1)):
            for number in (0, 1, 10, 11, 1000, 2001):
                run, trips = self.assert_whole(program, words, [number], 2000)
                self.assertEqual(trips[-1].frames, frames)
                self.assertEqual(trips[0].frames, min(2001, 1 + 2 * (number // 2)))
                self.assertEqual(run.last[0], "way")

    def test_a_call_in_a_stretch_keeps_its_frame(self):
        program = read("""
            fun m a
              if a = 0
                leave end
              else
              a = a - 1
              stretch
                call m a
                  out end end
              clean
                say a
        """)
        _, trips = self.assert_whole(program, ["hand", "place", "thread", "drop"], [7], 100)
        self.assertEqual([trip.frames for trip in trips], [8] * 5)

    def test_again_and_again_changes_nothing(self):
        for seed in range(60):
            program = read_program(made_text(seed))
            for word in PASSES:
                once = woven(program, ["place", "hand", word])
                twice = woven(program, ["place", "hand", word, word])
                self.assertEqual(plain(once), plain(twice))
                self.assertEqual(gone(program, ["place", "hand", word, word])[-1], (word, []))


def big_text(calls):
    """A text of forty functions with ten lines each but the last, which call one another as told: 391 lines and more."""
    lines = []
    for number in range(40):
        name = "f" + "abcdefghij"[number // 10] + "abcdefghij"[number % 10]
        callee = calls(number)
        lines += [f"fun {name} a b", "  way w 2", "  stretch", f"    a = a + {number}"]
        if callee is None:
            lines += ["    if b < 3", "      leave w a b", "    else", "  clean", "    say b", "  leave w b a"]
        else:
            other = "f" + "abcdefghij"[callee // 10] + "abcdefghij"[callee % 10]
            lines += [f"    call {other} a b", "      on w b a", "      on end", "  clean", "    say a", "  leave w b a"]
    return "\n".join(lines[:-1] if calls(39) is None else lines)


class BigTest(unittest.TestCase):
    ROWS = (["hand", "place", "thread", "drop"], ["place", "hand", "drop", "thread", "drop", "place", "hand", "drop"])

    def assert_big(self, text, every_numbers, fuels):
        lines = text.count("\n") + 1
        self.assertTrue(390 <= lines <= 400, lines)
        program = read_program(text)
        self.assertEqual(len(program.functions), 40)
        for words in self.ROWS:
            code = woven(program, words)
            layout = laid(code)
            self.assertEqual(read_layout(layout.text()).text(), layout.text())
            for numbers in every_numbers:
                for fuel in fuels:
                    run, trip = both(text, words, numbers, fuel)
                    self.assertEqual((run.log, run.last), (trip.log, trip.last))
        return program

    def test_each_calls_the_next_one(self):
        text = big_text(lambda number: number + 1 if number < 39 else None)
        program = self.assert_big(text, [[1, 2], [0, 5]], [0, 10, 38, 39, 2000])
        self.assertEqual(len(woven(program, ["place"]).pieces), 1)

    def test_each_calls_the_one_ahead_of_it_and_the_first_the_last(self):
        text = big_text(lambda number: 39 if number == 0 else number - 1 if number > 1 else None)
        program = self.assert_big(text, [[1, 2], [0, 5]], [0, 10, 39, 2000])
        self.assertEqual(len(woven(program, ["place"]).pieces), 1)

    def test_all_call_round(self):
        text = big_text(lambda number: (number + 7) % 40)
        self.assert_big(text, [[1, 2]], [0, 50, 2000])


if __name__ == "__main__":
    unittest.main()
