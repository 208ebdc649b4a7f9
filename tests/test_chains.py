"""Chains of steps between alike pipelines."""

import unittest

from pushalike.errors import InvalidChain, InvalidLayout, InvalidNumber, InvalidOperation, InvalidPipeline, TooMany, UnknownIndex
from pushalike.joint.papers import are_alike, find_paper, turned
from pushalike.joint.stands import Pair
from pushalike.tree.pipelines import Pipeline
from pushalike.tree.texts import read_pipeline, read_tree, write_pipeline
from pushalike.use.chains import Chain, trim
from pushalike.use.parts import lifted, needless
from tests.chance import LAYOUT, Chance
from tests.samples import junk
from tests.test_parts import HUNDREDS

SMALL = {"s": ("a",)}
BOTH = {"s": ("a", "b"), "t": ("a",)}


def step_of(path, one, other, layout=None):
    """A step with the paper that is found."""
    pair = Pair(read_pipeline(one), read_pipeline(other), layout or BOTH)
    return path, read_tree(other), find_paper(pair)


def known_chain():
    """A chain of three steps at several paths."""
    chain = Chain(BOTH, read_pipeline("(changes (+ (until s s) (only ab t)))"))
    chain = chain.step((0, 0), read_pipeline("(first 1 s)"))
    chain = chain.step((0,), read_pipeline("(+ (first 1 s) t)"))
    return chain.step((), read_pipeline("(changes (+ (first 1 (first 2 s)) t))"))


class Chains(unittest.TestCase):
    def test_the_example(self):
        chain = Chain(SMALL, read_pipeline("(changes (until s s))")).step((0,), read_pipeline("(first 1 s)"))
        self.assertEqual([write_pipeline(chain.goal), (chain + chain.back()).goal == chain.start, len(chain + chain.back()), chain.steps[0][:2]],
                         ["(changes (first 1 s))", True, 2, ((0,), ("first", 1, ("source", "s")))])
        self.assertEqual(write_pipeline(trim(chain.goal, SMALL).goal), "(first 1 s)")

    def test_a_chain_without_steps(self):
        one = read_pipeline("(first 2 s)")
        for chain in (Chain({"t": ("a",), "s": ("a",)}, one), Chain.of({"t": ("a",), "s": ("a",)}, one, ())):
            self.assertEqual([chain.layout, chain.start, chain.goal, chain.steps, len(chain), chain[0], str(chain)],
                             [{"s": ("a",), "t": ("a",)}, one, one, (), 0, one, "chain of 0 steps from 2 to 2 parts"])
            self.assertEqual(list(chain.layout), ["s", "t"])
            self.assertTrue(chain.back() == chain and chain + chain == chain)

    def test_steps(self):
        chain = known_chain()
        texts = ["(changes (+ (until s s) (only ab t)))", "(changes (+ (first 1 s) (only ab t)))", "(changes (+ (first 1 s) t))", "(changes (+ (first 1 (first 2 s)) t))"]
        self.assertEqual([write_pipeline(chain[k]) for k in range(4)], texts)
        self.assertEqual([write_pipeline(chain.start), write_pipeline(chain.goal), len(chain), str(chain)], [texts[0], texts[3], 3, "chain of 3 steps from 7 to 6 parts"])
        self.assertEqual([step[:2] for step in chain.steps], [((0, 0), read_tree("(first 1 s)")), ((0,), read_tree("(+ (first 1 s) t)")), ((), read_tree(texts[3]))])
        self.assertEqual(chain.steps[0], step_of((0, 0), "(until s s)", "(first 1 s)"))
        self.assertEqual(chain.steps[1], step_of((0,), "(+ (first 1 s) (only ab t))", "(+ (first 1 s) t)"))
        self.assertTrue(Chain.of(BOTH, chain.start, chain.steps) == chain)
        self.assertTrue(are_alike(chain.start, chain.goal, BOTH))
        for value in junk() + [-1, 4, True, (0,)]:
            if value not in (0, 1) or isinstance(value, bool):
                with self.assertRaises(UnknownIndex) as caught:
                    chain[value]
                self.assertIs(caught.exception.index, value)
        with self.assertRaises(TypeError):
            iter(chain)

    def test_chains_are_not_changed(self):
        chain = Chain(BOTH, read_pipeline("(until s s)"))
        more = chain.step((), read_pipeline("(first 1 s)"))
        self.assertEqual([len(chain), len(more), chain.goal], [0, 1, read_pipeline("(until s s)")])
        self.assertEqual(len(more + more.back()), 2)
        self.assertEqual([len(more), len(more.steps)], [1, 1])

    def test_layouts_that_are_changed(self):
        layout = {"s": ("a",)}
        chain = Chain(layout, read_pipeline("s"))
        layout["s"] = ("a", "b")
        chain.layout["t"] = ("a",)
        self.assertEqual(chain.layout, SMALL)
        self.assertRaises(InvalidOperation, chain.step, (), read_pipeline("t"))
        self.assertEqual(len(chain.step((), read_pipeline("(only a s)"))), 1)
        layout = {"s": ("a",)}
        chain = Chain.of(layout, read_pipeline("s"), (step_of((), "s", "(only a s)", SMALL),))
        layout["t"] = ("a",)
        self.assertEqual(chain.layout, SMALL)

    def test_equal_chains(self):
        chain = known_chain()
        self.assertTrue(chain == known_chain() and not chain != known_chain())
        steps = chain.steps
        paper = steps[0][2]
        others = [Chain(BOTH, chain.start), chain.back(), Chain.of(BOTH, chain.start, steps[:2]), Chain(SMALL, read_pipeline("s")), Chain(BOTH, read_pipeline("s")),
                  Chain.of(BOTH, chain.start, ((steps[0][:2] + (("list", paper[1][::-1]),)),) + steps[1:])]
        for value in junk() + others:
            self.assertIs(chain == value, False)
            self.assertIs(chain != value, True)
        self.assertFalse(Chain(SMALL, read_pipeline("s")) == Chain(BOTH, read_pipeline("s")))
        self.assertFalse(Chain(BOTH, read_pipeline("s")) == Chain(BOTH, read_pipeline("t")))

    def test_joined(self):
        chain = known_chain()
        for cut in range(4):
            first, second = Chain.of(BOTH, chain.start, chain.steps[:cut]), Chain.of(BOTH, chain[cut], chain.steps[cut:])
            self.assertTrue(first + second == chain)
            self.assertEqual([(first + second)[k] for k in range(4)], [chain[k] for k in range(4)])
        self.assertEqual(str(chain + chain.back()), "chain of 6 steps from 7 to 7 parts")
        for value in junk() + [chain, Chain(dict(BOTH, u=("a",)), chain.goal), Chain(BOTH, chain.start), chain.goal, chain.steps]:
            with self.assertRaises(InvalidOperation):
                chain + value

    def test_back(self):
        chain = known_chain()
        back = chain.back()
        self.assertEqual([back[k] for k in range(4)], [chain[3 - k] for k in range(4)])
        self.assertEqual((back.start, back.goal, len(back)), (chain.goal, chain.start, 3))
        for step, other, before in zip(back.steps, reversed(chain.steps), [chain[2], chain[1], chain[0]]):
            path, tree, paper = other
            pair = Pair(Pipeline.of(before.part(path)), Pipeline.of(tree), BOTH)
            self.assertEqual(step, (path, before.part(path), turned(pair, paper)))
        self.assertTrue(Chain.of(BOTH, chain.goal, back.steps) == back)
        self.assertTrue(back.back() == chain)

    def test_papers_of_others(self):
        path, tree, paper = step_of((), "(spaced 3 s)", "(spaced 2 (spaced 3 s))")
        one = read_pipeline("(spaced 3 s)")
        other = ("list", paper[1][::-1])
        chain = Chain.of(BOTH, one, ((path, tree, other),))
        self.assertEqual(chain.steps, ((path, tree, other),))
        self.assertTrue(chain.back().back() == Chain.of(BOTH, one, ((path, tree, paper),)))
        self.assertTrue(Chain.of(BOTH, chain.goal, chain.back().steps).back().back() == chain.back())

    def test_by_chance(self):
        many = 0
        for seed in range(150):
            chance = Chance(seed)
            chain = Chain(BOTH, chance.pipeline(6)) if seed % 2 else Chain(BOTH, read_pipeline(chance.one_of(["(until s s)", "(changes (changes s))", "(only ab (first 1 s))"])))
            for _ in range(4):
                path = chance.one_of(chain.goal.paths())
                try:
                    other = Pipeline.of(chance.changed(chain.goal.part(path)))
                    chain = chain.step(path, other, limit=60)
                except (InvalidPipeline, InvalidOperation, TooMany):
                    continue
            self.assertTrue(Chain.of(BOTH, chain.start, chain.steps) == chain)
            try:
                self.assertTrue(are_alike(chain.start, chain.goal, BOTH, limit=100))
            except TooMany:
                pass
            back = chain.back()
            self.assertTrue(Chain.of(BOTH, chain.goal, back.steps) == back and back.back() == chain)
            self.assertTrue((chain + back).goal == chain.start)
            many += len(chain)
        self.assertGreater(many, 60)


class SpoiltSteps(unittest.TestCase):
    def test_what_is_no_step(self):
        chain = known_chain()
        for at in range(3):
            path, tree, paper = chain.steps[at]
            for value in junk():
                for step in (value, (value, tree, paper), (path, value, paper), (path, tree, value), (path, tree), (path, tree, paper, value), [path, tree, paper],
                             (path, tree, ("list", value)), (path, tree, ("list", paper[1] + (value,)))):
                    if step != chain.steps[at]:
                        steps = chain.steps[:at] + (step,) + chain.steps[at + 1:]
                        self.assertRaises(InvalidChain, Chain.of, BOTH, chain.start, steps)
            for step in ((path + (9,), tree, paper), (path, tree, ("list", paper[1][:-1])), (path, tree, ("list", paper[1] + paper[1][:1])), (path, tree, ("row", (), 0, ())),
                         (path, ("told", 1), paper), (path, ("it",), paper), (path, read_tree("(pairs s)"), paper), (path, read_tree("u"), paper), (path, chain[0], paper),
                         (path, tree, ("list", [*paper[1]])), (path, tree, list(paper)), (path, list(tree), paper), (list(path), tree, paper)):
                self.assertRaises(InvalidChain, Chain.of, BOTH, chain.start, chain.steps[:at] + (step,) + chain.steps[at + 1:])
        self.assertRaises(InvalidChain, Chain.of, BOTH, chain.start, chain.steps[1:])
        self.assertRaises(InvalidChain, Chain.of, BOTH, chain.start, chain.steps[:1] + chain.steps)
        self.assertRaises(InvalidChain, Chain.of, BOTH, chain.start, chain.steps[::-1])
        self.assertRaises(InvalidChain, Chain.of, BOTH, chain.start, list(chain.steps))
        for value in junk():
            if value != ():
                self.assertRaises(InvalidChain, Chain.of, BOTH, chain.start, value)

    def test_a_row_paper(self):
        one, other = read_pipeline("(first 1 s)"), read_pipeline("(first 2 s)")
        self.assertRaises(InvalidChain, Chain.of, BOTH, one, (((), other.tree, find_paper(Pair(one, other, BOTH))),))

    def test_a_part_that_is_not_closed(self):
        box = read_pipeline("(switch s (only ab it))")
        one = read_pipeline("(only ab s)")
        paper = find_paper(Pair(one, read_pipeline("s"), BOTH))
        self.assertRaises(InvalidChain, Chain.of, BOTH, box, (((1,), ("source", "s"), paper),))
        self.assertRaises(InvalidChain, Chain.of, BOTH, box, (((1,), ("it",), paper),))

    def test_a_tree_that_is_no_pipeline_then(self):
        box = read_pipeline("(changes (changes (changes (changes (changes (changes (changes (until s s))))))))")
        step = step_of((0,) * 7, "(until s s)", "(first 1 (only ab (only ab (only ab (only ab (only ab s))))))")
        self.assertRaises(InvalidChain, Chain.of, BOTH, box, (step,))
        right = step_of((0,) * 7, "(until s s)", "(first 1 (only ab (only ab s)))")
        self.assertEqual(len(Chain.of(BOTH, box, (right,)).goal), 11)
        self.assertRaises(InvalidChain, Chain.of, BOTH, box, (right, step))

    def test_a_paper_of_another_layout(self):
        one = read_pipeline("s")
        step = step_of((), "s", "(only a s)", SMALL)
        self.assertEqual(len(Chain.of(SMALL, one, (step,))), 1)
        self.assertRaises(InvalidChain, Chain.of, BOTH, one, (step,))

    def test_errors_in_their_order(self):
        chain = known_chain()
        far = read_pipeline("u")
        for value in junk():
            for call in (lambda: Chain(value, chain.start), lambda: Chain(value, None), lambda: Chain.of(value, None, None), lambda: Chain.of(value, far, chain.steps)):
                self.assertRaises(InvalidLayout, call)
            if not isinstance(value, Pipeline):
                for call in (lambda: Chain(BOTH, value), lambda: Chain.of(BOTH, value, None), lambda: Chain.of(BOTH, value, chain.steps)):
                    self.assertRaises(InvalidPipeline, call)
            self.assertRaises(InvalidOperation, Chain.of, BOTH, far, value)
        self.assertRaises(InvalidOperation, Chain, BOTH, far)
        self.assertRaises(InvalidOperation, Chain, SMALL, chain.start)
        self.assertRaises(InvalidOperation, Chain.of, SMALL, chain.start, chain.steps)

    def test_errors_of_step(self):
        chain = Chain(BOTH, read_pipeline("(switch s (+ it (until t t)))"))
        other, path = read_pipeline("(first 1 t)"), (1, 1)
        for value in junk():
            if value != ():
                with self.assertRaises(UnknownIndex) as caught:
                    chain.step(value, None, limit=0)
                self.assertIs(caught.exception.index, value)
            if not isinstance(value, Pipeline):
                self.assertRaises(InvalidPipeline, chain.step, path, value)
                self.assertRaises(InvalidPipeline, chain.step, (1, 0), value, limit=0)
            if not isinstance(value, int) or isinstance(value, bool) or not 1 <= value <= 900:
                with self.assertRaises(InvalidNumber) as caught:
                    chain.step((1, 0), other, limit=value)
                self.assertIs(caught.exception.value, value)
        for wrong in ((1, 0), (1,)):
            self.assertRaises(InvalidOperation, chain.step, wrong, other)
        for text in ("(first 2 t)", "(pairs t)", "u", "(never 0)"):
            self.assertRaises(InvalidOperation, chain.step, path, read_pipeline(text))
        self.assertRaises(TooMany, chain.step, path, other, limit=1)
        box = Chain(BOTH, read_pipeline("(changes (changes (changes (changes (changes (changes (changes (until s s))))))))"))
        self.assertRaises(InvalidPipeline, box.step, (0,) * 7, read_pipeline("(first 1 (only ab (only ab (only ab (only ab (only ab s))))))"))
        self.assertEqual(len(chain.step(path, other, limit=2)), 1)


class DefaultLimits(unittest.TestCase):
    def test_five_hundred_stands_and_one_more(self):
        layout = {"s": ("a",), "t": ("a",), "u": ("a",)}
        for many, box in HUNDREDS.items():
            for call in (lambda: Chain(layout, box).step((), box), lambda: trim(Pipeline.of(("only", ("a",), box.tree)), layout)):
                if many == 500:
                    self.assertEqual(len(call()), 1)
                else:
                    with self.assertRaises(TooMany) as caught:
                        call()
                    self.assertEqual(caught.exception.limit, 500)


class Trimmed(unittest.TestCase):
    def trimmed(self, pipeline, layout, limit):
        chain = trim(pipeline, layout, limit=limit)
        self.assertEqual((chain.start, chain.layout), (pipeline, layout))
        self.assertEqual(needless(chain.goal, layout, limit=limit), ())
        self.assertTrue(Chain.of(layout, pipeline, chain.steps) == chain)
        for k, (path, tree, _) in enumerate(chain.steps):
            self.assertEqual(path, ())
            self.assertIn(tree, [lifted(chain[k], inner).tree for inner in needless(chain[k], layout, limit=limit)])
        return chain

    def test_known_trees(self):
        for text, goals in (
            ("s", ("s",)), ("(first 2 (first 5 s))", ("(first 2 s)",)), ("(only ab (changes (changes (only ab s))))", ("(changes s)",)), ("(switch s (switch it it))", ("s",)),
            ("(until (pick 0 s) (never 0))", ("s",)), ("(then s t)", ("s",)), ("(+ (first 1 (first 2 s)) (only a t))", ("(+ (first 1 s) t)",)),
        ):
            self.assertIn(write_pipeline(self.trimmed(read_pipeline(text), BOTH, 500).goal), goals)

    def test_by_chance(self):
        lengths = []
        for seed in range(80):
            chance = Chance(seed)
            try:
                lengths.append(len(self.trimmed(chance.pipeline(6), LAYOUT, 60)))
            except TooMany as error:
                self.assertEqual(error.limit, 60)
        self.assertGreater(len(set(lengths)), 3)

    def test_errors(self):
        box = read_pipeline("(first 9 (only ab s))")
        for value in junk():
            if not isinstance(value, Pipeline):
                self.assertRaises(InvalidPipeline, trim, value, BOTH)
                self.assertRaises(InvalidPipeline, trim, value, None, limit=0)
            self.assertRaises(InvalidLayout, trim, box, value)
            self.assertRaises(InvalidLayout, trim, read_pipeline("u"), value, limit=0)
            if not isinstance(value, int) or isinstance(value, bool) or not 1 <= value <= 900:
                with self.assertRaises(InvalidNumber) as caught:
                    trim(read_pipeline("u"), BOTH, limit=value)
                self.assertIs(caught.exception.value, value)
        self.assertRaises(InvalidOperation, trim, read_pipeline("u"), BOTH, limit=1)
        self.assertRaises(TooMany, trim, box, BOTH, limit=9)
        self.assertEqual(write_pipeline(trim(box, BOTH, limit=10).goal), "(first 9 s)")


if __name__ == "__main__":
    unittest.main()
