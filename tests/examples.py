"""A program with all kinds of rows and arms, as a text and as the tree that it writes; and programs of lines."""

import textwrap

from exitweave.reader import read_program
from exitweave.trees import Again, Call, Copy, Function, If, Leave, On, Out, Program, Reckon, Say, Stretch

TEXT = """\
fun main a b
  way good 2
  way bad 0
  x = -5
  y = x / 2
  if x < y
    stretch
      call help x 7
        on end
          say 1
          if a = 0
            leave good a b
          else
        on got p q
          p = p + q
        out none bad
        again more a
    clean
      x = 0
      say x
  else
  stretch
  clean
  call main a -1
  leave end
fun empty
fun help u v
  way got 2
  way none 0
  way more 1
  if u = v
  else
    leave none
  leave got u v"""


def told_program():
    """The program that TEXT writes, with the place of each of its lines."""
    within = If(11, "=", "a", 0, [Leave(12, "good", ["a", "b"])], [])
    arms = [
        On(9, "end", [], [Say(10, 1), within]),
        On(14, "got", ["p", "q"], [Reckon(15, "p", "+", "p", "q")]),
        Out(16, "none", "bad"),
        Again(17, "more", ["a"]),
    ]
    stretch = Stretch(7, [Call(8, "help", ["x", 7], arms)], 18, [Copy(19, "x", 0), Say(20, "x")])
    body = [
        Copy(4, "x", -5),
        Reckon(5, "y", "/", "x", 2),
        If(6, "<", "x", "y", [stretch], []),
        Stretch(22, [], 23, []),
        Call(24, "main", ["a", -1], []),
        Leave(25, "end", []),
    ]
    helping = [
        If(31, "=", "u", "v", [], [Leave(33, "none", [])]),
        Leave(34, "got", ["u", "v"]),
    ]
    return Program([
        Function(1, "main", ["a", "b"], [("good", 2), ("bad", 0)], body),
        Function(26, "empty", [], [], []),
        Function(27, "help", ["u", "v"], [("got", 2), ("none", 0), ("more", 1)], helping),
    ])


def lines_of(text):
    """The lines of a text that stands indented between line feeds."""
    return textwrap.dedent(text).strip().split("\n")


def lines_read(*lines):
    """The program that these lines write."""
    return read_program("\n".join(lines))
