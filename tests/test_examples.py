"""The examples of the interface and of README.md."""

import doctest
import pathlib
import unittest

EXAMPLES = """
>>> from standframes.ratios import ratio
>>> ratio(4, -6)
(-2, 3)
>>> from standframes.ratios import root_sign
>>> root_sign((-3, 1), (2, 1), (2, 1))
-1
>>> from standframes.rows import solve
>>> solve([[(1, 1), (2, 1)], [(1, 1), (2, 1)]], [(3, 1), (3, 1)], width=2)
('solution', [(3, 1), (0, 1)])
>>> from standframes.frames import Frame
>>> from standframes.loads import Load
>>> from standframes.forces import carry
>>> joints = [("a", (0, 1), (0, 1)), ("b", (2, 1), (0, 1))]
>>> frame = Frame(joints, [("ab", "a", "b", "rod")], grounds=[("a", "fixed")])
>>> carry(frame, Load.single("b", (3, 1), (0, 1)))
('forces', [('ab', (3, 2))], [('a', (-3, 1), (0, 1))])
>>> from standframes.faces import faces
>>> joints = [("a", (0, 1), (0, 1)), ("b", (1, 1), (0, 1)), ("c", (0, 1), (1, 1))]
>>> bars = [("p", "a", "b", "rod"), ("q", "b", "c", "rod"), ("r", "a", "c", "rod")]
>>> faces(Frame(joints, bars))
[['a', 'b', 'c'], ['b', 'a', 'c']]
>>> from standframes.forces import own_stresses
>>> corners = [("a", (0, 1), (0, 1)), ("b", (6, 1), (0, 1)), ("c", (0, 1), (6, 1))]
>>> bars = [("ab", "a", "b", "rod"), ("bc", "b", "c", "rod"), ("ca", "c", "a", "rod")]
>>> spokes = [("ad", "a", "d", "rod"), ("bd", "b", "d", "rod"), ("cd", "c", "d", "rod")]
>>> frame = Frame(corners + [("d", (2, 1), (2, 1))], bars + spokes)
>>> own_stresses(frame)
[[('ab', (-1, 3)), ('bc', (-1, 3)), ('ca', (-1, 3)), ('ad', (1, 1)), ('bd', (1, 1)), ('cd', (1, 1))]]
>>> faces(frame)
[['a', 'b', 'd'], ['b', 'a', 'c'], ['b', 'c', 'd'], ['c', 'a', 'd']]
>>> from standframes.pictures import picture
>>> picture(frame, faces(frame), own_stresses(frame)[0])
[((0, 1), (0, 1)), ((2, 1), (0, 1)), ((4, 1), (-2, 1)), ((2, 1), (2, 1))]
>>> from standframes.counts import room
>>> room(4)
5
>>> from standframes.words import split_row
>>> split_row("cut ab", 4)
[('cut', 1), ('ab', 5)]
>>> from standframes.certificates import reply
>>> reply("joint a 0 0\\nload w\\npush w a 1 0\\nask freedom\\nask carry w\\n")
'freedom 2\\ncarry w motion\\n'
>>> from standframes.certificates import write_certificate
>>> write_certificate(("motion", [("a", (0, 1), (-1, 2))]))
'motion\\nmove a 0 -1/2\\n'
>>> from standframes.placing import meet
>>> meet(((0, 1), (0, 1)), ((6, 1), (0, 1)), (25, 1), (25, 1), side=-1)
('at', ((3, 1), (-4, 1)))
>>> meet(((0, 1), (0, 1)), ((6, 1), (0, 1)), (4, 1), (9, 1))
('far', (36, 1))
>>> from standframes.desks import run_rows
>>> run_rows("joint a 0 0 fixed\\ncut b\\nundo\\nundo\\n")[1]
[(1, 'done'), (2, 'unknown'), (3, 'undone'), (4, 'empty')]
"""


class TestExamples(unittest.TestCase):
    def run_examples(self, text, name):
        test = doctest.DocTestParser().get_doctest(text, {}, name, name, 0)
        self.assertTrue(test.examples)
        told = []
        doctest.DocTestRunner(verbose=False).run(test, out=told.append)
        self.assertEqual(told, [])

    def test_interface(self):
        self.run_examples(EXAMPLES, "interface")

    def test_readme(self):
        path = pathlib.Path(__file__).resolve().parent.parent / "README.md"
        self.run_examples(path.read_text(encoding="utf-8"), "README.md")
