"""Steps, pieces and codes [2], [41], [42], [43], and the words of a step's line [72]."""

import copy
import unittest

from exitweave import code as module
from exitweave.code import (
    Code, Compute, Enter, Handon, Jump, Label, Move, Piece, Return, Send, Step, Summon, Tell, Test,
)
from flat import labels_in, mapped, names_in, own_by, plain_step

MARK = ("f", 3)
ARMS = [("trap", ["fault.0"]), None, ("on", ["y", "x"]), ("on", ["x", "g.h.z"])]


def every_step():
    """One step of each kind, with names that have points in them, the name of a fault, and numbers."""
    return [
        Label(MARK, "on"),
        Move(MARK, "x", "g.y"),
        Compute(MARK, "x", "/", "y", -2, "trap"),
        Tell(MARK, "way.0"),
        Test(MARK, "<", "x", 7, "else"),
        Jump(MARK, "on"),
        Summon(MARK, "g", ["x", 0, "fault.0", "a"], ARMS),
        Handon(MARK, "g", ["x", 0, "b.0"], [0, -1, 3, 3]),
        Enter(MARK, [("g.x", "y"), ("g.y", -1), ("g.z", "fault.0")], ["g.b", "g.a"]),
        Send(MARK, [("x", "y"), ("y", "x"), ("fault.0", "g.a"), ("z", 3)], "on"),
        Return(MARK, 2, ["way.0", "x", -5]),
    ]


def more_steps():
    """Steps with numbers or the name of a fault wherever one may stand, and with nothing in their lists."""
    return [
        Move(MARK, "fault.0", 0), Move(MARK, "x", "fault.0"), Move(MARK, "x", "x"),
        Compute(MARK, "fault.0", "+", 1, "fault.0", "t"), Compute(MARK, "x", "*", "x", "x", "t"),
        Tell(MARK, 0), Tell(MARK, "fault.0"), Test(MARK, "=", "fault.0", 0, "l"), Test(MARK, "=", "b", "a", "l"),
        Summon(MARK, "g", [], [None, None]), Summon(MARK, "g", [], [("l", []), ("l", []), ("m", [])]),
        Handon(MARK, "g", [], [-1, -1]), Enter(MARK, [], []), Send(MARK, [], "l"), Return(MARK, 0, []),
        Return(MARK, 0, ["fault.0"]), Send(MARK, [("fault.0", "fault.0")], "l"),
    ]


def by_kind(steps):
    return {type(step).__name__: step for step in steps}


class FieldsTest(unittest.TestCase):
    def test_marks_and_fields(self):
        fields = {
            "Label": {"label": "on"},
            "Move": {"goal": "x", "atom": "g.y"},
            "Compute": {"goal": "x", "op": "/", "one": "y", "other": -2, "trap": "trap"},
            "Tell": {"atom": "way.0"},
            "Test": {"sign": "<", "one": "x", "other": 7, "label": "else"},
            "Jump": {"label": "on"},
            "Summon": {"callee": "g", "atoms": ["x", 0, "fault.0", "a"], "arms": ARMS},
            "Handon": {"callee": "g", "atoms": ["x", 0, "b.0"], "ways": [0, -1, 3, 3]},
            "Enter": {"pairs": [("g.x", "y"), ("g.y", -1), ("g.z", "fault.0")], "zeroed": ["g.b", "g.a"]},
            "Send": {"pairs": [("x", "y"), ("y", "x"), ("fault.0", "g.a"), ("z", 3)], "label": "on"},
            "Return": {"way": 2, "atoms": ["way.0", "x", -5]},
        }
        self.assertEqual(len(fields), 11)
        for name, step in by_kind(every_step()).items():
            self.assertEqual(step.mark, MARK)
            for field, value in fields[name].items():
                self.assertEqual(getattr(step, field), value, (name, field))
                self.assertIs(type(getattr(step, field)), type(value), (name, field))

    def test_fields_may_be_told_by_name(self):
        step = Compute(mark=MARK, goal="a", op="-", one="b", other="c", trap="d")
        self.assertEqual([step.goal, step.op, step.one, step.other, step.trap], ["a", "-", "b", "c", "d"])
        step = Test(mark=MARK, sign="=", one="b", other="c", label="d")
        self.assertEqual([step.sign, step.one, step.other, step.label], ["=", "b", "c", "d"])
        Label(mark=MARK, label="l"), Jump(mark=MARK, label="l"), Tell(mark=MARK, atom=1)
        Move(mark=MARK, goal="x", atom=1), Return(mark=MARK, way=1, atoms=[])
        Summon(mark=MARK, callee="g", atoms=[], arms=[]), Handon(mark=MARK, callee="g", atoms=[], ways=[])
        Enter(mark=MARK, pairs=[], zeroed=[]), Send(mark=MARK, pairs=[], label="l")
        piece = Piece(name="f", params=["a"], ways=["fault", "end"], steps=[step])
        self.assertEqual(Code(pieces=[piece]).pieces, [piece])

    def test_all_kinds_stand_straight_under_step(self):
        for step in every_step():
            self.assertEqual(type(step).__bases__, (Step,))
        self.assertEqual(Step.__bases__, (object,))
        under = [kind for kind in vars(module).values() if isinstance(kind, type) and issubclass(kind, Step)]
        self.assertEqual(len(under), 12)
        self.assertEqual(Step(MARK).mark, MARK)


class LabelsTest(unittest.TestCase):
    def test_labels_in_the_order_of_the_fields(self):
        told = {name: step.labels() for name, step in by_kind(every_step()).items()}
        self.assertEqual(told, {
            "Label": [], "Move": [], "Compute": ["trap"], "Tell": [], "Test": ["else"], "Jump": ["on"],
            "Summon": ["trap", "on", "on"], "Handon": [], "Enter": [], "Send": ["on"], "Return": [],
        })

    def test_labels_of_other_steps(self):
        self.assertEqual([step.labels() for step in more_steps()], [labels_in(plain_step(s)) for s in more_steps()])
        self.assertEqual(Summon(MARK, "g", [], [None, None]).labels(), [])
        self.assertEqual(Summon(MARK, "g", [], [("b", []), None, ("a", []), ("b", [])]).labels(), ["b", "a", "b"])

    def test_goes_on(self):
        told = {name: step.goes_on() for name, step in by_kind(every_step()).items()}
        self.assertEqual(told, {
            "Label": True, "Move": True, "Compute": True, "Tell": True, "Test": True, "Jump": False,
            "Summon": False, "Handon": False, "Enter": True, "Send": False, "Return": False,
        })
        for step in more_steps():
            self.assertIs(step.goes_on(), told[type(step).__name__])


class NamedTest(unittest.TestCase):
    def test_names_rise_each_once_without_that_of_a_fault(self):
        told = {name: step.named() for name, step in by_kind(every_step()).items()}
        self.assertEqual(told, {
            "Label": [], "Move": ["g.y", "x"], "Compute": ["x", "y"], "Tell": ["way.0"], "Test": ["x"], "Jump": [],
            "Summon": ["a", "g.h.z", "x", "y"], "Handon": ["b.0", "x"],
            "Enter": ["g.a", "g.b", "g.x", "g.y", "g.z", "y"], "Send": ["g.a", "x", "y", "z"],
            "Return": ["way.0", "x"],
        })

    def test_names_of_other_steps(self):
        for step in more_steps():
            self.assertEqual(step.named(), names_in(plain_step(step)), plain_step(step))
        self.assertEqual(Move(MARK, "b", "a").named(), ["a", "b"])
        self.assertEqual(Move(MARK, "fault.0", "fault.0").named(), [])
        self.assertEqual(Move(MARK, "fault.1", "g.fault.0").named(), ["fault.1", "g.fault.0"])
        self.assertEqual(Enter(MARK, [("b", "a")], ["b", "a", "c"]).named(), ["a", "b", "c"])
        self.assertEqual(Enter(MARK, [], ["fault.0", "z", "y"]).named(), ["y", "z"])

    def test_labels_callees_and_signs_are_no_names(self):
        self.assertEqual(Summon(MARK, "callee", [], [("label", [])]).named(), [])
        self.assertEqual(Compute(MARK, "x", "+", 1, 1, "trap").named(), ["x"])


class RelabelledTest(unittest.TestCase):
    def test_by_a_dict_with_some_of_the_labels(self):
        given = {"on": "new", "x": "no", "g": "no", "f": "no"}
        told = {name: step.relabelled(given) for name, step in by_kind(every_step()).items()}
        self.assertEqual(told["Label"].label, "new")
        self.assertEqual(told["Compute"].trap, "trap")
        self.assertEqual(told["Test"].label, "else")
        self.assertEqual(told["Jump"].label, "new")
        self.assertEqual(told["Send"].label, "new")
        self.assertEqual(
            told["Summon"].arms, [("trap", ["fault.0"]), None, ("new", ["y", "x"]), ("new", ["x", "g.h.z"])]
        )

    def test_by_dicts_with_all_some_none_of_the_labels(self):
        dicts = [
            {}, {"none": "l"}, {"on": "trap", "trap": "on"}, {"on": "on"}, {"l": "m", "m": "l"}, {"t": 0, "l": 0},
            {"on": 5, "trap": 0, "else": 7, "l": 2, "m": 0, "t": 1},
        ]
        for given in dicts:
            for step in every_step() + more_steps():
                ahead = plain_step(step)
                kept = dict(given)
                told = step.relabelled(given)
                self.assertIs(type(told), type(step))
                awaited = mapped(ahead, lambda name: name, lambda label: given.get(label, label))
                self.assertEqual(plain_step(told), awaited)
                self.assertEqual(plain_step(step), ahead)
                self.assertEqual(given, kept)

    def test_an_arm_that_is_none_stays_none(self):
        step = Summon(MARK, "g", [], [None, ("l", ["x"]), None]).relabelled({None: "l", "l": "m"})
        self.assertEqual(step.arms, [None, ("m", ["x"]), None])


class RenamedTest(unittest.TestCase):
    def test_names_get_the_prefix_ahead(self):
        told = {name: step.renamed("k") for name, step in by_kind(every_step()).items()}
        self.assertEqual((told["Move"].goal, told["Move"].atom), ("k.x", "k.g.y"))
        self.assertEqual((told["Compute"].goal, told["Compute"].one, told["Compute"].other), ("k.x", "k.y", -2))
        self.assertEqual((told["Compute"].op, told["Compute"].trap), ("/", "trap"))
        self.assertEqual(told["Tell"].atom, "k.way.0")
        self.assertEqual((told["Test"].one, told["Test"].other, told["Test"].label), ("k.x", 7, "else"))
        self.assertEqual(told["Summon"].callee, "g")
        self.assertEqual(told["Summon"].atoms, ["k.x", 0, "fault.0", "k.a"])
        self.assertEqual(
            told["Summon"].arms, [("trap", ["fault.0"]), None, ("on", ["k.y", "k.x"]), ("on", ["k.x", "k.g.h.z"])]
        )
        self.assertEqual((told["Handon"].atoms, told["Handon"].ways), (["k.x", 0, "k.b.0"], [0, -1, 3, 3]))
        self.assertEqual(told["Enter"].pairs, [("k.g.x", "k.y"), ("k.g.y", -1), ("k.g.z", "fault.0")])
        self.assertEqual(told["Enter"].zeroed, ["k.g.b", "k.g.a"])
        self.assertEqual(told["Send"].pairs, [("k.x", "k.y"), ("k.y", "k.x"), ("fault.0", "k.g.a"), ("k.z", 3)])
        self.assertEqual((told["Return"].way, told["Return"].atoms), (2, ["k.way.0", "k.x", -5]))

    def test_all_else_stays_and_the_step_itself_too(self):
        for prefix in ("k", "g.h", "fault", "x"):
            for step in every_step() + more_steps():
                ahead = plain_step(step)
                told = step.renamed(prefix)
                self.assertIs(type(told), type(step))
                self.assertEqual(plain_step(told), mapped(ahead, own_by(prefix), lambda label: label))
                self.assertEqual(told.labels(), step.labels())
                self.assertEqual(told.mark, step.mark)
                self.assertEqual(plain_step(step), ahead)
                again = step.renamed("a").renamed("b")
                self.assertEqual(again.named(), [f"b.a.{name}" for name in step.named()])

    def test_only_the_name_of_a_fault_stays(self):
        step = Send(MARK, [("fault.0", "fault.1"), ("g.fault.0", "fault"), ("end.0", 0)], "l").renamed("k")
        self.assertEqual(step.pairs, [("fault.0", "k.fault.1"), ("k.g.fault.0", "k.fault"), ("k.end.0", 0)])


class WordsTest(unittest.TestCase):
    def assert_words(self, step, line):
        self.assertEqual(step.words(), line.split(" "))

    def test_the_words_of_each_kind_of_line(self):
        self.assert_words(Move(("f", 0), "x", -5), "move f 0 x -5")
        self.assert_words(Move(("main", 12), "g.x", "fault.0"), "move main 12 g.x fault.0")
        self.assert_words(Compute(("f", 1), "x", "/", "y", 0, 17), "compute f 1 x / y 0 17")
        self.assert_words(Tell(("f", 2), 999999999999), "tell f 2 999999999999")
        self.assert_words(Test(("f", 3), "<", -1, "b", 0), "test f 3 < -1 b 0")
        self.assert_words(Jump(("f", 4), 9), "jump f 4 9")
        self.assert_words(
            Summon(("f", 5), "g", ["x", 3], [(7, ["fault.0"]), None, (0, []), (8, ["a", "b"])]),
            "summon f 5 g 2 x 3 4 7 1 fault.0 - 0 0 8 2 a b",
        )
        self.assert_words(Summon(("f", 5), "g", [], [None, None]), "summon f 5 g 0 2 - -")
        self.assert_words(Handon(("f", 6), "g", ["x", 3], [0, -1, 2]), "handon f 6 g 2 x 3 3 0 -1 2")
        self.assert_words(Handon(("f", 6), "g", [], [0, 1]), "handon f 6 g 0 2 0 1")
        self.assert_words(Enter(("f", 7), [("g.x", "x"), ("g.y", 2)], ["g.a"]), "enter f 7 2 g.x x g.y 2 1 g.a")
        self.assert_words(Enter(("f", 7), [], []), "enter f 7 0 0")
        self.assert_words(Send(("f", 8), [("x", "g.x"), ("y", 2)], 4), "send f 8 2 x g.x y 2 4")
        self.assert_words(Send(("f", 8), [], 0), "send f 8 0 0")
        self.assert_words(Return(("f", 9), 0, ["fault.0"]), "return f 9 0 1 fault.0")
        self.assert_words(Return(("f", 9), 1, []), "return f 9 1 0")

    def test_words_are_texts_whatever_the_labels_are(self):
        for step in every_step() + more_steps():
            for word in step.words():
                self.assertIs(type(word), str)

    def test_a_label_has_no_line(self):
        self.assertEqual(Label(MARK, "l").words(), [])


class ListsTest(unittest.TestCase):
    """[2]: lists handed in or told, changed behind, change nothing."""

    def test_lists_that_were_handed_in(self):
        atoms, goals, ways, zeroed = ["a", 1], ["x"], [0, -1], ["z"]
        arms, pairs = [("l", goals), None], [("p", "q")]
        steps = [
            Summon(MARK, "g", atoms, arms), Handon(MARK, "g", atoms, ways), Enter(MARK, pairs, zeroed),
            Send(MARK, pairs, "l"), Return(MARK, 1, atoms),
        ]
        ahead = [plain_step(step) for step in steps]
        for handed in (atoms, goals, ways, zeroed, arms, pairs):
            handed.append("more")
            handed[0] = "other"
        self.assertEqual([plain_step(step) for step in steps], ahead)

    def test_lists_that_were_told(self):
        for step in every_step():
            for told in (step.labels, step.named, step.words):
                ahead = told()
                changed = told()
                changed.append("more")
                changed[0] = "other"
                self.assertEqual(told(), ahead)

    def test_steps_made_again_share_no_lists(self):
        for step in every_step():
            for again in (step.relabelled({}), step.relabelled({"on": "l"}), step.renamed("k")):
                ahead = plain_step(step)
                self.assertIsNot(again, step)
                for value in vars(again).values():
                    if isinstance(value, list):
                        for part in value:
                            if isinstance(part, tuple) and isinstance(part[1], list):
                                part[1].append("more")
                        value.append("more")
                self.assertEqual(plain_step(step), ahead)

    def test_lists_of_pieces_and_codes(self):
        params, ways, steps = ["a"], ["fault", "end"], [Return(MARK, 1, [])]
        piece = Piece("f", params, ways, steps)
        pieces = [piece]
        code = Code(pieces)
        for handed in (params, ways, steps, pieces):
            handed.append("more")
        self.assertEqual((piece.params, piece.ways, len(piece.steps)), (["a"], ["fault", "end"], 1))
        self.assertEqual(code.pieces, [piece])

    def test_asking_changes_nothing(self):
        for step in every_step() + more_steps():
            ahead = copy.deepcopy(plain_step(step))
            answers = [
                (step.labels(), step.goes_on(), step.named(), step.words(), plain_step(step.renamed("k")))
                for _ in range(3)
            ]
            self.assertEqual(answers[0], answers[1])
            self.assertEqual(answers[0], answers[2])
            self.assertEqual(plain_step(step), ahead)


class PieceTest(unittest.TestCase):
    def test_a_piece_by_its_name(self):
        pieces = [Piece(name, [], ["fault", "end"], [Return((name, 0), 1, [])]) for name in ("main", "f", "g")]
        code = Code(pieces)
        for piece in pieces:
            self.assertIs(code.piece(piece.name), piece)
        self.assertIsNone(code.piece("h"))
        self.assertIsNone(code.piece(""))
        self.assertIsNone(Code([]).piece("main"))

    def test_fields(self):
        step = Return(("f", 0), 2, ["a"])
        piece = Piece("f", ["a", "b"], ["fault", "end", "w"], [step])
        self.assertEqual(
            [piece.name, piece.params, piece.ways, piece.steps], ["f", ["a", "b"], ["fault", "end", "w"], [step]]
        )


if __name__ == "__main__":
    unittest.main()
