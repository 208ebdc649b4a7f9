import re
import unittest

from pushalike.errors import InvalidPipeline, ParseError
from pushalike.tree.pipelines import Pipeline, is_tree
from pushalike.tree.texts import read_pipeline, read_tree, write_pipeline, write_tree
from tests.chance import Chance
from tests.samples import IT, S, T, junk, shared
from tests.test_trees import FORMS, KINDS, right_trees, with_argument

LONG = 10 ** 40 - 1
TEXTS = {
    "s": S,
    "abcdefgh": ("source", "abcdefgh"),
    "it": IT,
    "(never 0)": ("never", 0),
    "(never 4)": ("never", 4),
    "(told 2)": ("told", 2),
    "(one z)": ("one", "z"),
    "(after 5 z)": ("after", 5, "z"),
    f"(after {LONG} a)": ("after", LONG, "a"),
    "(every 5 z)": ("every", 5, "z"),
    f"(every {LONG} a)": ("every", LONG, "a"),
    "(only ab s)": ("only", ("a", "b"), S),
    "(only z s)": ("only", ("z",), S),
    "(only abcdefghijklmnopqrstuvwxyz s)": ("only", tuple("abcdefghijklmnopqrstuvwxyz"), S),
    "(pick 1,0 s)": ("pick", (1, 0), S),
    "(pick 3,3,3,3 s)": ("pick", (3, 3, 3, 3), S),
    "(pick 2 s)": ("pick", (2,), S),
    "(pick - s)": ("pick", (), S),
    "(fold 0a1b,1a0- s)": ("fold", (((0, "a"), (1, "b")), ((1, "a"), (0, ""))), S),
    "(fold 8z8- s)": ("fold", (((8, "z"), (8, "")),), S),
    "(first 2 s)": ("first", 2, S),
    "(first 9 s)": ("first", 9, S),
    "(changes s)": ("changes", S),
    "(pairs s)": ("pairs", S),
    "(quiet 3 s)": ("quiet", 3, S),
    "(spaced 3 s)": ("spaced", 3, S),
    f"(spaced {LONG} s)": ("spaced", LONG, S),
    "(late 3 2 s)": ("late", 3, 2, S),
    "(again s)": ("again", S),
    "(+ s t)": ("+", S, T),
    "(& s t)": ("&", S, T),
    "(at s t)": ("at", S, T),
    "(until s t)": ("until", S, T),
    "(then s t)": ("then", S, T),
    "(else 5 s t)": ("else", 5, S, T),
    "(switch s it)": ("switch", S, IT),
    "(busy s (told 4))": ("busy", S, ("told", 4)),
    "(switch (quiet 3 s) (until t (after 5 z)))": ("switch", ("quiet", 3, S), ("until", T, ("after", 5, "z"))),
    "(+ (+ (one a) (one b)) (+ it (+ s it)))": ("+", ("+", ("one", "a"), ("one", "b")), ("+", IT, ("+", S, IT))),
    "(else 5 (never 1) (fold 0a0a (pick - it)))": ("else", 5, ("never", 1), ("fold", (((0, "a"), (0, "a")),), ("pick", (), IT))),
}
# What may stand at a place of this kind, told by patterns and not by the program.
NUMBER = "[1-9][0-9]*"
PATTERNS = {
    "width": "[0-4]", "delay": "[1-9][0-9]{0,39}", "count": "[1-9]", "room": "[1-3]", "letter": "[a-z]",
    "letters": "a?b?c?d?e?f?g?h?i?j?k?l?m?n?o?p?q?r?s?t?u?v?w?x?y?z?", "places": "-|[0-3](,[0-3]){0,3}",
    "table": "[0-8][a-z][0-8][a-z-](,[0-8][a-z][0-8][a-z-]){0,19}",
}


def words_of(text):
    return re.findall(r"[()]|[^() ]+", text)


def joined(words):
    text = ""
    for word in words:
        text += word if not text or text.endswith("(") or word == ")" else " " + word
    return text


def is_word(word, kind):
    """Whether the word may stand where this kind is due."""
    if kind in ("(", ")"):
        return word == kind
    if kind == "word":
        return word in FORMS and word not in ("source", "it")
    if kind == "table" and re.fullmatch(PATTERNS[kind], word):
        keys = [pair[:2] for pair in word.split(",")]
        return keys == sorted(set(keys))
    return word != "" and re.fullmatch(PATTERNS[kind], word) is not None


def first_wrong(words):
    """The index of the first word that cannot stand there, the number of words if more are needed, or None."""
    waiting = ["part"]
    for index, word in enumerate(words):
        if not waiting:
            return index
        kind = waiting.pop()
        if kind == "part":
            if word == "(":
                waiting += [")", "word"]
            elif not (word == "it" or (re.fullmatch("[a-z]{1,8}", word) and word not in FORMS)):
                return index
        elif not is_word(word, kind):
            return index
        elif kind == "word":
            waiting += reversed(FORMS[word].split())
    return len(words) if waiting else None


class Written(unittest.TestCase):
    def test_each_text(self):
        for text, tree in TEXTS.items():
            self.assertEqual(write_tree(tree), text)
            found = read_tree(text)
            self.assertEqual(found, tree)
            self.assertIs(type(found), tuple)
            self.assertEqual(repr(found), repr(tree))

    def test_each_argument(self):
        for tree in right_trees():
            for at, kind in enumerate(FORMS[tree[0]].split(), 1):
                for value in KINDS[kind][0]:
                    other = with_argument(tree, at, value)
                    self.assertEqual(repr(read_tree(write_tree(other))), repr(other))
                for value in KINDS[kind][1]:
                    with self.assertRaises(InvalidPipeline):
                        write_tree(with_argument(tree, at, value))

    def test_pipelines(self):
        for text, tree in TEXTS.items():
            try:
                made = Pipeline.of(tree)
            except InvalidPipeline:
                with self.assertRaises(InvalidPipeline):
                    read_pipeline(text)
                continue
            self.assertEqual(write_pipeline(made), text)
            self.assertIsInstance(read_pipeline(text), Pipeline)
            self.assertEqual(read_pipeline(text), made)
            self.assertEqual(read_pipeline(text).tree, tree)

    def test_by_chance(self):
        for seed in range(300):
            made = Chance(seed).pipeline(12)
            self.assertEqual(read_pipeline(write_pipeline(made)), made)
            self.assertEqual(write_tree(read_tree(write_tree(made.tree))), write_pipeline(made))

    def test_what_is_no_tree(self):
        for value in junk() + [list(S), [S], (S,), Pipeline.of(S), "s", "(never 1)", ("it", 1), ("source", "it"), shared(4), shared(40)]:
            with self.assertRaises(InvalidPipeline):
                write_tree(value)

    def test_what_is_no_pipeline(self):
        for value in junk() + [S, IT, list(S), "s", (Pipeline.of(S),)]:
            if not isinstance(value, Pipeline):
                with self.assertRaises(InvalidPipeline):
                    write_pipeline(value)


class Blanks(unittest.TestCase):
    def none(self, text):
        for call in (read_tree, read_pipeline):
            with self.assertRaises(ParseError) as caught:
                call(text)
            self.assertIs(caught.exception.index, None)

    def test_one_too_many_and_one_too_few(self):
        for text in TEXTS:
            for at in range(len(text) + 1):
                self.none(text[:at] + "  " + text[at:])
                if at < len(text) and text[at] == " ":
                    self.none(text[:at] + " " + text[at:])
                    left, right = text[at - 1], text[at + 1]
                    if left == ")" or right == "(":
                        self.none(text[:at] + text[at + 1:])

    def test_at_the_ends_and_at_parentheses(self):
        for text in (" ", "  ", " s", "s ", "( again s)", "(again s )", "(again s) ", " (again s)", "(again  s)", "(again(again s))",
                     "(+ (one a)(one b))", "(+ s(one b))", "(+ (one a)t)", "s(", ")s", ") )", "( (", "( )", ")(", " ()", "what  is", "a b "):
            self.none(text)

    def test_before_wrong_words(self):
        self.none("? ")
        self.none("(what s )")
        self.none(") s  s")

    def test_what_is_no_string(self):
        for value in junk() + [S, ["s"], ("s",), b"s", Pipeline.of(S)]:
            if not isinstance(value, str):
                self.none(value)


class Wrong(unittest.TestCase):
    def at(self, text, index):
        for call in (read_tree, read_pipeline):
            with self.assertRaises(ParseError) as caught:
                call(text)
            self.assertEqual((caught.exception.index, type(caught.exception.index)), (index, int), text)

    def test_more_words_are_needed(self):
        for text in ("", "(", "(again", "(again s", "(+ s", "(+ s t", "(else 5", "(else 5 s", "(late", "(late 3", "(late 3 2", "(late 3 2 s",
                     "(switch (quiet 3 s) (until t (after 5 z))", "(fold", "(fold 0a1b", "(never", "(never 1", "(one", "(after 5"):
            self.at(text, len(words_of(text)))

    def test_too_many_words(self):
        self.at("s t", 1)
        self.at("s)", 1)
        self.at("s (", 1)
        self.at("it it", 1)
        self.at("(again s))", 4)
        self.at("(again s) t", 4)
        self.at("(again s) (", 4)
        self.at("(one z z)", 3)
        self.at("(again s t)", 3)
        self.at("(+ s t s)", 4)

    def test_the_first_word(self):
        for text in (")", "source", "never", "again", "+", "1", "-", "S", "abcdefghi", "a1", "s\n", "\n", "a_b", "~" * 4000, "a" * 4000, "()"):
            self.at(text, 1 if text == "()" else 0)

    def test_words_behind_a_parenthesis(self):
        for word in ("source", "it", "s", "what", "Again", "1", "(", ")", "-", "again\n", "never1"):
            self.at("(" + word, 1)
            self.at(joined(["(", word, "s", ")"]), 1)

    def test_arguments(self):
        for text, index in (
            ("(never 5)", 2), ("(never 00)", 2), ("(never -1)", 2), ("(never a)", 2), ("(never (", 2), ("(told 5)", 2), ("(never 01)", 2),
            ("(one A)", 2), ("(one ab)", 2), ("(one 1)", 2), ("(one -)", 2), ("(one (one z))", 2), ("(after 0 z)", 2), ("(after 05 z)", 2),
            ("(after +5 z)", 2), ("(after 5.0 z)", 2), ("(after 1" + "0" * 40 + " z)", 2), ("(after " + "9" * 3000 + " z)", 2), ("(after z 5)", 2),
            ("(after 5 5)", 3), ("(after 5 s t)", 4), ("(only ba s)", 2), ("(only aa s)", 2), ("(only - s)", 2), ("(only a,b s)", 2),
            ("(only aB s)", 2), ("(only s)", 3), ("(only (one a) s)", 2), ("(pick 4 s)", 2), ("(pick 0,4 s)", 2), ("(pick 0, s)", 2),
            ("(pick ,0 s)", 2), ("(pick 0,,0 s)", 2), ("(pick -,0 s)", 2), ("(pick 00 s)", 2), ("(pick 0,0,0,0,0 s)", 2), ("(pick 01 s)", 2),
            ("(pick -- s)", 2), ("(pick 0 1 s)", 3), ("(pick s)", 2), ("(fold 0a1 s)", 2), ("(fold 0a1bb s)", 2), ("(fold 0a9b s)", 2),
            ("(fold 9a0b s)", 2), ("(fold 0-0b s)", 2), ("(fold 0a0b, s)", 2), ("(fold ,0a0b s)", 2), ("(fold - s)", 2), ("(fold 0a0b,0a1b s)", 2),
            ("(fold 1a0b,0a0b s)", 2), ("(fold 0b0b,0a0b s)", 2), ("(fold 00ab s)", 2), ("(fold 0a0B s)", 2), ("(fold 0a0b0c0d s)", 2),
            ("(fold " + ",".join(f"{k // 5}{'abcde'[k % 5]}8a" for k in range(21)) + " s)", 2), ("(first 0 s)", 2), ("(first 10 s)", 2),
            ("(first s)", 2), ("(late 3 4 s)", 3), ("(late 0 3 s)", 2), ("(late 3 s)", 3), ("(else s 5 t)", 2), ("(quiet 3 4 s)", 3),
            ("(quiet 3 never)", 3), ("(+ s (source t))", 4), ("(+ s ())", 4), ("(again", 2), ("(again)", 2), ("(+ s)", 3), ("(again it t)", 3),
        ):
            self.assertEqual(first_wrong(words_of(text)), index, text)
            self.at(text, index)

    def test_the_number_of_pairs_of_a_table(self):
        pairs = [f"{k // 5}{'abcde'[k % 5]}8a" for k in range(20)]
        self.assertEqual(len(read_tree("(fold " + ",".join(pairs) + " s)")[1]), 20)

    def test_signs_changed_at_every_place(self):
        for text in TEXTS:
            for at in range(len(text) + 1):
                for sign in "()a1-,0Z\n+":
                    for other in (text[:at] + sign + text[at:], text[:at] + sign + text[at + 1:], text[:at] + text[at + 1:]):
                        self.judged(other)

    def test_words_changed_at_every_place(self):
        for text in TEXTS:
            words = words_of(text)
            for at in range(len(words)):
                self.judged(joined(words[:at] + words[at + 1:]))
                self.judged(joined(words[:at] + [words[at]] + words[at:]))
                self.judged(joined(words[:at] + words[at + 1:at + 2] + [words[at]] + words[at + 2:]))
                for word in ("(", ")", "s", "it", "1", "9", "ab", "-", "again", "+", "never"):
                    self.judged(joined(words[:at] + [word] + words[at:]))
                    self.judged(joined(words[:at] + [word] + words[at + 1:]))

    def judged(self, text):
        """What is read is what the grammar above says."""
        words = words_of(text)
        if joined(words) != text:
            index = None
        else:
            index = first_wrong(words)
            if index is None:
                tree = read_tree(text)
                self.assertTrue(is_tree(tree))
                self.assertEqual(write_tree(tree), text)
                return
        with self.assertRaises(ParseError) as caught:
            read_tree(text)
        self.assertEqual(caught.exception.index, index, text)


class Large(unittest.TestCase):
    def row(self, many):
        return "(again " * (many - 1) + "s" + ")" * (many - 1)

    def test_twelve_parts_and_more(self):
        self.assertTrue(is_tree(read_tree(self.row(12))))
        for many in (13, 14, 100, 400):
            for call in (read_tree, read_pipeline):
                with self.assertRaises(InvalidPipeline):
                    call(self.row(many))
        wide = "(+ s s)"
        for _ in range(5):
            wide = f"(+ {wide} {wide})"
        with self.assertRaises(InvalidPipeline):
            read_tree(wide)

    def test_wrong_words_in_large_texts(self):
        for many in (13, 100, 400):
            text = self.row(many)
            for other, index in ((text[:-1], len(words_of(text)) - 1), (text + ")", len(words_of(text))), (text.replace("s", "never"), 2 * many - 2)):
                with self.assertRaises(ParseError) as caught:
                    read_tree(other)
                self.assertEqual(caught.exception.index, index)
        with self.assertRaises(ParseError) as caught:
            read_tree("(" * 4000)
        self.assertEqual(caught.exception.index, 1)

    def test_trees_that_are_no_pipelines(self):
        for text in ("it", "(told 1)", "(+ s (one a))", "(again (one a))", "(pick 1 s)", "(+ (late 1 3 s) (late 1 3 s))", "(changes (one a))"):
            self.assertTrue(is_tree(read_tree(text)))
            with self.assertRaises(InvalidPipeline):
                read_pipeline(text)
