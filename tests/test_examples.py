import unittest

from pushalike.tree.pipelines import Pipeline


class Document(unittest.TestCase):
    def test_the_examples_of_pipelines(self):
        box = Pipeline.source("s").quiet(3) >> ("until", ("source", "t"), ("after", 5, "z"))
        self.assertEqual(
            [box.sources, box.width, len(box), box.clocks, box.part((1, 0)), (1, 1, 0) in box],
            [("s", "t"), 1, 6, 2, ("source", "t"), False],
        )
        self.assertEqual(
            [(box + Pipeline.never()).tree[0], box.replaced((1, 1), ("one", "z")).clocks, str(box.first(2))],
            ["+", 1, "pipeline of 7 parts"],
        )
