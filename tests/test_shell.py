"""The shell."""

import unittest

from pushalike.errors import InvalidLayout, TooMany
from pushalike.joint.papers import find_paper
from pushalike.joint.stands import Pair
from pushalike.run.live import Live
from pushalike.run.states import begin
from pushalike.text.shell import SHELL_LIMIT, Shell
from pushalike.tree.texts import write_pipeline
from tests.chance import Chance
from tests.samples import MOST, WORDS, junk

LAYOUT = {"s": ("a",), "t": ("b",)}
BOTH = {"s": ("a", "b"), "t": ("a",)}


def text_of(told):
    return ", ".join(item if item == "end" else " ".join([item[0]] + [str(value) for value in item[1]]) for item in told) or "nothing"


class Sessions(unittest.TestCase):
    def session(self, shell, *lines):
        """Each line returns the text behind it."""
        for line, text in lines:
            self.assertEqual(shell(line), text, line)

    def test_the_example(self):
        shell = Shell(LAYOUT)
        self.assertEqual([shell("let box (quiet 3 s)"), shell("start box"), shell("push s a 7"), shell("wait 4"), shell("push s b 1")],
                         ["let box", "nothing", "nothing", "3: a 7", "tape"])
        self.assertEqual([shell("undo"), shell("undo"), shell("undo"), shell("alike box box"), shell("let box (quiet 0 s)"), shell("show  box")],
                         ["at 0", "at 0", "undo", "alike", "text 2", "what"])

    def test_the_limit(self):
        self.assertEqual(SHELL_LIMIT, 200)

    def test_names(self):
        self.session(Shell(LAYOUT), ("names", "nothing"), ("let b s", "let b"), ("names", "b"), ("let a (first 2 s)", "let a"), ("let abcdefgh t", "let abcdefgh"),
                     ("names", "a abcdefgh b"), ("show a", "(first 2 s)"), ("let a (one z)", "let a"), ("names", "a abcdefgh b"), ("show a", "(one z)"), ("show b", "s"),
                     ("show c", "unknown c"), ("let c (quiet", "text 2"), ("show c", "unknown c"), ("let a it", "pipeline"), ("show a", "(one z)"), ("let names s", "let names"),
                     ("show names", "s"), ("let let (never 4)", "let let"), ("show let", "(never 4)"), ("names", "a abcdefgh b let names"))

    def test_let(self):
        shell = Shell(LAYOUT)
        for text, answer in (
            ("", "text 0"), (" ", "text None"), (" s", "text None"), ("s ", "text None"), ("(first  2 s)", "text None"), ("( s)", "text None"), ("(first 2 s", "text 4"),
            ("(first 0 s)", "text 2"), ("(first 2 s))", "text 5"), ("s t", "text 1"), ("(told 1)", "pipeline"), ("(again (one z))", "pipeline"), ("it", "pipeline"),
            ("(+ (one z) s)", "pipeline"), ("(what 2 s)", "text 1"), ("~", "text 0"), ("s\n", "text 0"), ("\n", "text 0"), ("a" * 4000, "text 0"), ("(" * 3000, "text 1"),
            ("(changes " * 12 + "s" + ")" * 12, "pipeline"), ("(changes " * 11 + "s" + ")" * 11, "let box"), ("it it", "text 1"), ("names", "let box"), ("u", "let box"),
        ):
            self.assertEqual(shell("let box " + text), answer, text)
        for name in ("", "Box", "abcdefghi", "it", "until", "b1", "b-x", "(", "+") + tuple(word for word in WORDS if len(word) <= 8):
            self.assertEqual(shell(f"let {name} s"), "what")
        for line in ("let", "let ", "let box", "let  box s", " let box s", "Let box s", "let\nbox s", "let box\ns", "letbox s", "let  s"):
            self.assertEqual(shell(line), "what", line)
        self.assertEqual(shell("names"), "box")

    def test_running(self):
        self.session(
            Shell(LAYOUT), ("push s a 1", "idle"), ("wait 1", "idle"), ("undo", "idle"), ("redo", "idle"), ("let two (+ (one y) (+ (one z) (pick - (late 3 2 s))))", "let two"),
            ("push s a 1", "idle"), ("start two", "y, z"), ("push s a 1", "nothing"), ("wait 1", "nothing"), ("push s a 5", "nothing"), ("wait 9", "3: a\n4: a"), ("undo", "at 1"),
            ("undo", "at 1"), ("redo", "at 1"), ("redo", "at 10"), ("redo", "undo"), ("wait 0", "nothing"), ("undo", "at 10"), ("push t b 1", "nothing"), ("redo", "undo"),
            ("let both (& s t)", "let both"), ("start both", "nothing"), ("undo", "undo"), ("push s a -7", "nothing"), ("push t b 12", "b -7 12"), ("push s a 3", "a 3 12"),
            ("wait 5", "nothing"), ("let both s", "let both"), ("push t b 4", "b 3 4"), ("undo", "at 5"), ("undo", "at 0"), ("start both", "nothing"), ("undo", "undo"))

    def test_lists(self):
        self.session(Shell(LAYOUT), ("let a (one z)", "let a"), ("start a", "z, end"), ("wait 4", "nothing"), ("let b (first 1 (+ s (pick 0 s)))", "let b"),
                     ("start b", "nothing"), ("push s a 7", "a 7, end"), ("push s a 7", "nothing"), ("let c (then (after 2 z) (+ (one y) (after 1 x)))", "let c"), ("start c", "nothing"),
                     ("wait 1", "nothing"), ("wait 8", "2: z, y\n3: x, end"), ("let d (only b (one c))", "let d"), ("start d", "end"), ("let e (pick 0,0,0,0 s)", "let e"),
                     ("start e", "nothing"), (f"push s a {MOST}", "a" + f" {MOST}" * 4), (f"push s a {-MOST}", "a" + f" {-MOST}" * 4))

    def test_events_over_other_layouts(self):
        shell = Shell(LAYOUT)
        self.session(shell, ("let a (+ s t)", "let a"), ("start a", "nothing"))
        for words in ("s b", "t a", "u a", "S a", "s A", "it a", "s ab", "a s", "(s a", "s )", "7 7", "until a", "s -", "s\n a", "~ ~"):
            self.assertEqual(shell(f"push {words} 1"), "tape", words)
        self.session(shell, ("push s a 1", "a 1"), ("push t b 1", "b 1"), ("undo", "at 0"), ("undo", "at 0"), ("undo", "undo"))

    def test_numbers(self):
        shell = Shell(LAYOUT)
        self.session(shell, ("let a (every 2 z)", "let a"), ("start a", "nothing"))
        for word in ("01", "-01", "+1", "-0", "1.0", "1_0", "", "one", "9" * 61, "-" + "9" * 61, "1 ", " 1", "0x1", "--1", "1\n", "9" * 3000, "True", "None"):
            self.assertEqual(shell(f"wait {word}"), "what", word)
            self.assertEqual(shell(f"push s a {word}"), "what", word)
        self.session(shell, ("wait -1", "number -1"), (f"wait {-MOST}", f"number {-MOST}"), (f"wait {MOST}", "many 1000"), ("wait 2002", "many 1000"), ("wait 3", "2: z"),
                     (f"wait {MOST - 2}", f"number {MOST - 2}"), (f"wait {MOST - 3}", "many 1000"), ("undo", "at 0"), ("undo", "undo"), ("redo", "at 3"))
        text = shell("wait 2000")
        self.assertEqual(text, "\n".join(f"{time}: z" for time in range(4, 2004, 2)))
        self.session(shell, ("let b s", "let b"), ("start b", "nothing"), (f"wait {MOST}", "nothing"), ("wait 1", "number 1"), ("wait 0", "nothing"), ("undo", f"at {MOST}"))

    def test_alike(self):
        shell = Shell(BOTH)
        self.session(
            shell, ("let a (until s s)", "let a"), ("let b (first 1 s)", "let b"), ("let c (first 2 s)", "let c"), ("let d (pairs s)", "let d"), ("let e u", "let e"),
            ("let f (+ (first 9 s) (first 9 t))", "let f"), ("let g (+ (first 9 s) (+ (first 9 t) (first 9 t)))", "let g"), ("alike a b", "alike"), ("alike b a", "alike"),
            ("alike b b", "alike"), ("alike a c", "0 s a 0\nuntil 0"), ("alike a d", "operation"), ("alike a e", "operation"), ("alike e e", "operation"), ("alike f f", "alike"),
            ("alike d d", "alike"), ("alike a x", "unknown x"), ("alike x a", "unknown x"), ("alike x y", "unknown x"), ("alike y x", "unknown y"), ("alike e x", "unknown x"))
        self.session(Shell(BOTH), ("let a (after 3 z)", "let a"), ("let b (after 4 z)", "let b"), ("alike a b", "until 3"), ("let c (one z)", "let c"), ("alike a c", "until 0"))
        three = Shell({"s": ("a",), "t": ("a",), "u": ("a",)})
        self.session(three, ("let a (+ (first 9 s) (+ (first 9 t) (first 1 u)))", "let a"), ("let b (+ (first 9 s) (+ (first 9 t) (first 2 u)))", "let b"),
                     ("alike a a", "alike"), ("alike b b", "many 200"), ("show b", "(+ (first 9 s) (+ (first 9 t) (first 2 u)))"))

    def test_alike_by_chance(self):
        answers = {}
        for seed in range(250):
            pair = Pair(*Chance(seed).near_pair(6), BOTH)
            shell = Shell(BOTH)
            shell("let left " + write_pipeline(pair.left))
            shell("let right " + write_pipeline(pair.right))
            try:
                paper = find_paper(pair, limit=200)
                if paper[0] == "list":
                    text = "alike"
                else:
                    text = "\n".join([" ".join(str(item) for item in event) for event in paper[1]] + [f"until {paper[2]}"])
            except TooMany:
                text = "many 200"
            self.assertEqual(shell("alike left right"), text)
            answers[text.split(" ")[0]] = True
        self.assertLessEqual({"0", "alike", "many", "until"}, set(answers))

    def test_beside_a_running_pipeline(self):
        for seed in range(150):
            chance = Chance(seed)
            pipeline = chance.pipeline(6)
            shell, live = Shell(BOTH), Live(pipeline)
            self.assertEqual(shell("let box " + write_pipeline(pipeline)), "let box")
            self.assertEqual(shell("start box"), text_of(begin(pipeline)[1]))
            for _ in range(15):
                kind = chance.random.random()
                if kind < 0.5:
                    source = chance.one_of(BOTH)
                    letter, value = chance.one_of(BOTH[source]), chance.random.randint(-2, 2)
                    self.assertEqual(shell(f"push {source} {letter} {value}"), text_of(live.push(source, letter, value)))
                elif kind < 0.8:
                    time = chance.random.randint(0, 4)
                    lines = [f"{stamp[0]}: {text_of(told)}" for stamp, told in live.wait(time)]
                    self.assertEqual(shell.run(f"wait {time}"), "\n".join(lines) or "nothing")
                elif kind < 0.9:
                    if len(live):
                        live.undo()
                        self.assertEqual(shell("undo"), f"at {live.now}")
                    else:
                        self.assertEqual(shell("undo"), "undo")
                else:
                    try:
                        live.redo()
                        self.assertEqual(shell("redo"), f"at {live.now}")
                    except LookupError:
                        self.assertEqual(shell("redo"), "undo")

    def test_wrong_lines(self):
        shell = Shell(LAYOUT)
        for line in ("", " ", "  ", "\n", "what", "nothing", "help", "Names", "NAMES", "names ", " names", "names names", "names\n", "show", "show ", "show  a", "show a b", "show A",
                     "show it", "show a ", "show until", "show abcdefghi", "start", "start A", "start a b", "start  a", "start +", "push", "push s", "push s a", "push s a 1 1",
                     "push  s a 1", "push s  a 1", "push s a  1", "push s a 1 ", "push s a", "push s a x", "wait", "wait 1 1", "wait x", "undo 1", "undo ", "redo 1", "redo  ", "Undo",
                     "alike", "alike a", "alike a b c", "alike a  b", "alike a B", "alike A b", "alike a it", "alikea b", "let", "let a", "show-a", "showa", "names a", "start a1"):
            self.assertEqual(shell(line), "what", line)
            self.assertEqual(shell.run(line), "what", line)
        for value in junk():
            self.assertEqual(shell(value), "what")
            self.assertEqual(shell.run(value), "what")
        self.assertEqual(shell("names"), "nothing")

    def test_the_order_of_errors(self):
        shell = Shell(LAYOUT)
        self.session(shell, ("push S A x", "what"), ("push S A 1", "idle"), ("wait x", "what"), ("wait -1", "idle"), ("undo", "idle"), ("show a", "unknown a"), ("start a", "unknown a"),
                     ("let a (pairs s)", "let a"), ("let b u", "let b"), ("alike c d", "unknown c"), ("alike a c", "unknown c"), ("alike a b", "operation"), ("start a", "nothing"),
                     ("push S A 1", "tape"), ("wait -1", "number -1"), ("undo", "undo"), ("start c", "unknown c"), ("undo", "undo"), ("push s a 1", "nothing"), ("start c", "unknown c"),
                     ("push s a 2", "a 1 2"), ("undo", "at 0"), ("push s b 2", "tape"), ("redo", "at 0"), ("wait -4", "number -4"), ("undo", "at 0"), ("what", "what"), ("redo", "at 0"))

    def test_layouts(self):
        for value in junk():
            self.assertRaises(InvalidLayout, Shell, value)
        layout = {"s": ("a",)}
        shell = Shell(layout)
        layout["s"], layout["t"] = ("b",), ("a",)
        self.session(shell, ("let a (+ s t)", "let a"), ("start a", "nothing"), ("push s a 1", "a 1"), ("push s b 1", "tape"), ("push t a 1", "tape"), ("alike a a", "operation"))

    def test_shells_are_apart(self):
        one, other = Shell(LAYOUT), Shell(LAYOUT)
        self.session(one, ("let a s", "let a"), ("start a", "nothing"))
        self.session(other, ("names", "nothing"), ("undo", "idle"))


if __name__ == "__main__":
    unittest.main()
