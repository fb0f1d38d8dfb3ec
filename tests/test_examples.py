"""The examples of DOC.md and those of README.md."""

import unittest
from doctest import DocTestParser
from pathlib import Path

from turnedapart import counting, homes, joints, spined

ROW = homes.Home(4, ((0, 1), (1, 2), (2, 3), (0, 3)))
ROUND = homes.Home(4, ((0, 1), (2, 1), (2, 3), (0, 3)))


class Examples(unittest.TestCase):
    def test_order(self):
        self.assertEqual(homes.order(ROW, ((0, 1),)), (1, 0, 2, 3))

    def test_ring(self):
        self.assertEqual(homes.ring(ROUND, ((0, 3), (2, 1))), (0, 1, 2, 3))

    def test_bare(self):
        self.assertEqual(homes.bare(ROW, ()), ((0, 1), (1, 2), (2, 3)))

    def test_joints(self):
        turned = (((0, 1),), ((1, 2),), ((2, 3),))
        self.assertEqual(joints.spanned(ROW, turned), ((0, 1), (0, 3), (1, 2), (2, 3)))
        self.assertEqual(joints.reason(ROW, turned, (0, 3)), (0, 1, 2, 3))
        self.assertEqual(joints.joint(ROW, turned[:2]), ((0, 1), (1, 2)))
        self.assertIsNone(joints.joint(ROUND, (((2, 1),), ((0, 3),))))

    def test_spined(self):
        self.assertEqual((spined.is_spined(ROW), spined.is_spined(ROUND)), (True, False))

    def test_counting(self):
        self.assertEqual(counting.many_standings(ROW), 14)


class Readme(unittest.TestCase):
    def test_its_examples(self):
        text = (Path(__file__).resolve().parent.parent / "README.md").read_text().replace("```", "")
        examples, names = DocTestParser().get_examples(text), {}
        self.assertGreater(len(examples), 20)
        for example in examples:
            if example.want:
                self.assertEqual(repr(eval(example.source, names)), example.want.strip())
            else:
                exec(example.source, names)
