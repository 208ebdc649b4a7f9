import ast
import os
import unittest

from pushalike.base.tapes import Tape
from pushalike.joint.bounds import Bounds
from pushalike.joint.monitors import Monitor, Watch, keeps, observe
from pushalike.joint.papers import find_paper, hastened, is_paper
from pushalike.joint.stands import Pair
from pushalike.run.live import Live
from pushalike.run.readings import difference, read
from pushalike.run.states import begin, due_in, event, moment, waited
from pushalike.text.papers import read_paper, write_paper
from pushalike.text.shell import Shell
from pushalike.tree.pipelines import Pipeline
from pushalike.tree.texts import read_pipeline, read_tree, write_pipeline, write_tree
from pushalike.use.chains import Chain, trim
from pushalike.use.parts import closed_paths, exchange, hand_over, lifted, needless
from pushalike.use.wishes import Book, answered, apart, at_most


class Document(unittest.TestCase):
    def test_the_examples_of_tapes(self):
        tape = Tape(((2, "s", "a", 7), (2, "t", "a", 8))) + Tape(((0, "s", "b", 7),), last=4)
        self.assertEqual(
            [tape.last, tape.stamps(), tape[2], len(tape.upto(1)), tape.fits({"s": ("a", "b"), "t": ("a",)})],
            [6, ((2, 1), (2, 2), (2, 3)), (2, "s", "b", 7), 0, True],
        )

    def test_the_examples_of_pipelines(self):
        box = Pipeline.source("s").quiet(3) >> ("until", ("source", "t"), ("after", 5, "z"))
        self.assertEqual(
            [box.sources, box.width, len(box), box.clocks, box.part((1, 0)), (1, 1, 0) in box],
            [("s", "t"), 1, 6, 2, ("source", "t"), False],
        )
        self.assertEqual(
            [(box + Pipeline.never()).tree[0], box.replaced((1, 1), ("one", "z")).clocks, str(box.first(2))],
            ["+", 1, "pipeline of 7 parts"],
        )

    def test_the_examples_of_texts(self):
        self.assertEqual(
            read_tree("(switch (quiet 3 s) (until t (after 5 z)))"),
            ("switch", ("quiet", 3, ("source", "s")), ("until", ("source", "t"), ("after", 5, "z"))),
        )
        self.assertEqual(write_tree(("fold", (((0, "a"), (1, "b")), ((1, "a"), (0, ""))), ("it",))), "(fold 0a1b,1a0- it)")

    def test_the_examples_of_states(self):
        box = read_pipeline("(switch (quiet 3 s) (until t (after 5 z)))")
        state, told = event(box, begin(box)[0], "s", "a", 7)
        self.assertEqual(
            [state, told, due_in(box, state), waited(box, state, 2)],
            [((("a", "on"), None), (7,), (0,)), (), 3, ((("a", "on"), None), (7,), (2,))],
        )
        self.assertEqual(moment(box, state), ((((None, "on"), (None, ("on", "on"))), (), (0,)), ()))

    def test_the_examples_of_readings(self):
        box = read_pipeline("(switch (quiet 3 s) (then (after 2 z) (one y)))")
        self.assertEqual(
            read(box, Tape(((0, "s", "a", 1), (2, "s", "a", 2), (6, "s", "a", 3)), last=12)),
            (((7, 0), (("z", ()), ("y", ()))), ((11, 0), (("z", ()), ("y", ())))),
        )
        three, five = read_pipeline("(quiet 5 (quiet 3 s))"), read_pipeline("(quiet 8 s)")
        self.assertEqual(
            difference(three, five, Tape(((0, "s", "a", 1), (6, "s", "a", 2)), last=20)),
            ((8, 0), (("a", (1,)),), ()),
        )

    def test_the_examples_of_live_pipelines(self):
        live = Live(read_pipeline("(switch (quiet 3 s) (until t (after 5 z)))"))
        self.assertEqual(
            [live.push("s", "a", 7), live.wait(4), live("t", "b", 8), live.wait(3), live.told],
            [(), (), (("b", (8,)),), (), (((4, 1), (("b", (8,)),)),)],
        )
        live.undo(2)
        self.assertEqual(
            [live.now, len(live), live.wait(5), live("t", "b", 9), live.state],
            [4, 2, (), (), (((None, "on"), None), (), ())],
        )

    def test_the_examples_of_bounds(self):
        one = Bounds.zero(2).risen((4, 9))
        self.assertEqual(
            [one.rows, (3, 3) in one, (3, 2) in one, (one >> 1).least()],
            [((0, 0, 0), (4, 0, 0), (4, 0, 0)), True, False, (1, 1)],
        )
        self.assertEqual(
            [one.cut(0, 1, -2).moved((2, 0)).rows, one.cut(1, 2, -1), Bounds(((0, 9), (5, 0))).rows, one.within(Bounds.zero(2))],
            [((0, -2, 0), (4, 0, 4), (0, -2, 0)), None, ((0, 9), (5, 0)), False],
        )

    def test_the_examples_of_joint_stands(self):
        pair = Pair(Pipeline.source("s").quiet(2), Pipeline.source("s").late(2), {"s": ("a",)})
        start = pair.begin()[0]
        self.assertEqual([start, list(pair.ways(start))], [((None, "on"), ((), "on"), (), ((0,),)), [("event", "s", "a", 0)]])
        stand = pair.follow(start, ("event", "s", "a", 0))[0]
        self.assertEqual(
            [stand, list(pair.ways(stand))[1:]],
            [(("a", "on"), (("a",), "on"), (0, 0), ((0, 0, 0), (1, 0, 0), (1, 0, 0))), [("event", "s", "a", 1), ("moment", (1, 2))]],
        )
        self.assertEqual(
            pair.follow(stand, ("moment", (1, 2))),
            (((None, "on"), ((), "on"), (), ((0,),)), (("a", (0,)),), (("a", (0,)),)),
        )


    def test_the_examples_of_papers(self):
        pair = Pair(read_pipeline("(until s s)"), read_pipeline("(first 1 s)"), {"s": ("a",)})
        self.assertEqual(find_paper(pair), ("list", (("over", "over", (), ((0,),)), (("on", "on"), (1, "on"), (), ((0,),)))))
        pair = Pair(read_pipeline("(quiet 2 s)"), read_pipeline("(late 2 1 s)"), {"s": ("a",)})
        start = pair.begin()[0]
        rounds = ((start,), (pair.follow(start, ("event", "s", "a", 0))[0],))
        self.assertIs(is_paper(pair, ("row", ((0, "s", "a", 0), (0, "s", "a", 1)), 2, rounds)), True)
        tape = hastened(pair, Tape(((3, "s", "a", 0), (7, "s", "a", 0), (8, "s", "a", 1)), last=20))
        self.assertEqual([tape.events, tape.last], [((0, "s", "a", 0), (2, "s", "a", 0), (3, "s", "a", 1)), 5])

    def test_the_examples_of_monitors(self):
        quick = Monitor.of(read_tree("(switch (told 1) (after 2 z))"))
        self.assertEqual(observe(read_pipeline("(quiet 3 s)"), quick, Tape(((0, "s", "a", 7),), last=9)), (((5, 0), (("z", ()),)),))
        silent = Monitor.of(read_tree("(only b (told 1))"))
        self.assertEqual([keeps(read_pipeline(text), silent, {"s": ("a", "b")}) for text in ("(only a s)", "s")], [True, False])
        self.assertEqual(find_paper(Watch(Pipeline.source("s"), silent, {"s": ("a", "b")}))[:3], ("row", ((0, "s", "b", 0),), 0))

    def test_the_examples_of_wishes(self):
        book = Book({"s": ("a",)})
        book["calm"], book["few"], book["quick"] = apart(3), at_most(2, 4), answered({"s": ("a",)}, "s", 3)
        self.assertEqual(
            [book.kept(read_pipeline(text)) for text in ("(quiet 3 s)", "(spaced 3 s)", "(late 3 1 s)", "s")],
            [("calm", "few"), ("calm", "few"), ("calm", "few", "quick"), ("quick",)],
        )

    def test_the_examples_of_parts(self):
        box, layout = read_pipeline("(first 2 (first 5 s))"), {"s": ("a",)}
        self.assertEqual(
            [needless(box, layout), list(closed_paths(box)), lifted(box, (0, 0)) == read_pipeline("(first 2 s)")],
            [((0, 0),), [(), (0,), (0, 0)], True],
        )
        pair = Pair(read_pipeline("(until s s)"), read_pipeline("(first 1 s)"), layout)
        self.assertEqual(hand_over(pair, find_paper(pair), (("on", "on"), (), ())), ((1, "on"), (), ()))
        live = Live(box)
        self.assertEqual(live.push("s", "a", 1), (("a", (1,)),))
        self.assertIsNone(exchange(live, (), read_pipeline("(first 2 s)"), layout))
        self.assertEqual([str(live), live.state, live.push("s", "a", 2)], ["live pipeline of 2 parts at 0", ((1, "on"), (), ()), (("a", (2,)), "end")])

    def test_the_examples_of_chains(self):
        chain = Chain({"s": ("a",)}, read_pipeline("(changes (until s s))")).step((0,), read_pipeline("(first 1 s)"))
        self.assertEqual(
            [write_pipeline(chain.goal), (chain + chain.back()).goal == chain.start, len(chain + chain.back()), chain.steps[0][:2]],
            ["(changes (first 1 s))", True, 2, ((0,), ("first", 1, ("source", "s")))],
        )
        self.assertEqual(write_pipeline(trim(chain.goal, {"s": ("a",)}).goal), "(first 1 s)")

    def test_the_examples_of_texts_of_papers(self):
        stand = ((("a",), "on"), "over", (0,), ((0, 0), (4, 0)))
        self.assertEqual(write_paper(("row", ((2, "s", "a", 7),), 9, ((stand,),))), "row\n2 s a 7\nuntil 9\nround\n(((a) on) over (0) ((0 0) (4 0)))")
        self.assertEqual(read_paper("list\n((- on) (() on) () ((0)))"), ("list", (((None, "on"), ((), "on"), (), ((0,),)),)))

    def test_the_examples_of_the_shell(self):
        shell = Shell({"s": ("a",), "t": ("b",)})
        self.assertEqual(
            [shell("let box (quiet 3 s)"), shell("start box"), shell("push s a 7"), shell("wait 4"), shell("push s b 1")],
            ["let box", "nothing", "nothing", "3: a 7", "tape"],
        )
        self.assertEqual(
            [shell("undo"), shell("undo"), shell("undo"), shell("alike box box"), shell("let box (quiet 0 s)"), shell("show  box")],
            ["at 0", "at 0", "undo", "alike", "text 2", "what"],
        )


class Readme(unittest.TestCase):
    """What README.md says of the package is so."""

    def test_the_rows_with_an_answer(self):
        path = os.path.join(os.path.dirname(os.path.dirname(os.path.abspath(__file__))), "README.md")
        with open(path, encoding="utf-8") as file:
            blocks = [block.split("```")[0] for block in file.read().split("```python\n")[1:]]
        self.assertGreater(len(blocks), 3)
        checked, names = 0, {}
        for block in blocks:
            for row in block.split("\n"):
                code, _, answer = row.partition("  # ")
                if answer:
                    self.assertEqual(eval(code, names), ast.literal_eval(answer.strip()), row)
                    checked += 1
                else:
                    exec(code, names)
        self.assertGreater(checked, 20)
