"""Texts of papers."""

import ast
import re
import unittest

from pushalike.errors import InvalidPaper, ParseError, TooMany
from pushalike.joint.papers import find_paper
from pushalike.joint.stands import Pair
from pushalike.text.papers import read_paper, write_paper
from pushalike.tree.texts import read_pipeline
from tests.chance import Chance
from tests.samples import MOST, WORDS, junk
from tests.test_stands import TEXTS

STAND = ((("a",), "on"), "over", (0,), ((0, 0), (4, 0)))
LINE = "(((a) on) over (0) ((0 0) (4 0)))"
OTHER = ((None, "on"), ((), "on"), (), ((0,),))
OTHER_LINE = "((- on) (() on) () ((0)))"
PAPERS = (
    (("list", ()), "list"),
    (("list", (STAND,)), "list\n" + LINE),
    (("list", (OTHER, STAND, OTHER)), "\n".join(["list", OTHER_LINE, LINE, OTHER_LINE])),
    (("row", (), 0, ()), "row\nuntil 0"),
    (("row", (), 9, ()), "row\nuntil 9"),
    (("row", ((2, "s", "a", 7),), 9, ((STAND,),)), "row\n2 s a 7\nuntil 9\nround\n" + LINE),
    (("row", ((2, "s", "a", 7),), 2, ((),)), "row\n2 s a 7\nuntil 2\nround"),
    (("row", ((0, "abcdefgh", "z", -7), (0, "t", "a", 0)), 0, ((), (STAND, OTHER))), "\n".join(
        ["row", "0 abcdefgh z -7", "0 t a 0", "until 0", "round", "round", LINE, OTHER_LINE])),
    (("row", ((0, "s", "a", MOST), (MOST, "s", "a", -MOST)), MOST, ((OTHER,), ())), "\n".join(
        ["row", f"0 s a {MOST}", f"{MOST} s a {-MOST}", f"until {MOST}", "round", OTHER_LINE, "round"])),
    (("list", ((None, 7, (-1, 5), ((3,),)), ("abc", (), (), ((0, 1), (-2, 3))))), "list\n(- 7 (-1 5) ((3)))\n(abc () () ((0 1) (-2 3)))"),
)


def deep(depth, inner="on"):
    """A shape that is nested so deep."""
    for _ in range(depth):
        inner = (inner,)
    return inner


def stand_with(shape):
    return shape, "on", (), ((0,),)


def lines_of(value):
    """The lines of a text of a paper; written down once more, as plainly as can be."""
    if value[0] == "list":
        return ["list"] + [item(stand) for stand in value[1]]
    rows = ["row"] + ["{} {} {} {}".format(*event) for event in value[1]] + ["until {}".format(value[2])]
    for stands in value[3]:
        rows += ["round"] + [item(stand) for stand in stands]
    return rows


def item(value):
    return "(" + " ".join(item(inner) for inner in value) + ")" if isinstance(value, tuple) else "-" if value is None else str(value)


class Written(unittest.TestCase):
    def test_the_examples(self):
        for value, text in PAPERS:
            self.assertEqual(write_paper(value), text)
            self.assertEqual(read_paper(text), value)
            self.assertEqual("\n".join(lines_of(value)), text)

    def test_papers_that_are_found(self):
        kinds = {}
        for one, other in TEXTS:
            for left, right in ((one, other), (one, one), (other, other)):
                pair = Pair(read_pipeline(left), read_pipeline(right), {"s": ("a", "b"), "t": ("a",)})
                try:
                    paper = find_paper(pair, limit=60)
                except TooMany:
                    continue
                text = write_paper(paper)
                self.assertEqual(text, "\n".join(lines_of(paper)))
                self.assertEqual(read_paper(text), paper)
                kinds[paper[0], len(paper[1])] = True
        self.assertGreater(len(kinds), 8)

    def test_papers_by_chance(self):
        for seed in range(150):
            pair = Pair(*Chance(seed).near_pair(6), {"s": ("a", "b"), "t": ("a",)})
            try:
                paper = find_paper(pair, limit=40)
            except TooMany:
                continue
            self.assertEqual(read_paper(write_paper(paper)), paper)

    def test_nesting(self):
        for depth in range(20):
            value = ("list", (stand_with(deep(depth)),))
            text = "list\n(" + "(" * depth + "on" + ")" * depth + " on () ((0)))"
            self.assertEqual(write_paper(value), text)
            self.assertEqual(read_paper(text), value)
            second = ("list", (("on", deep(depth), (), ((0,),)),))
            self.assertEqual(read_paper(write_paper(second)), second)
            empty = ("list", (stand_with(deep(depth, ())),)) if depth < 19 else ("list", (stand_with(deep(18, ())),))
            self.assertEqual(read_paper(write_paper(empty)), empty)
        for depth in range(20, 40):
            text = "(" + "(" * depth + "on" + ")" * depth + " on () ((0)))"
            for stand in (stand_with(deep(depth)), ("on", deep(depth), (), ((0,),)), stand_with(deep(depth - 1, ())), (deep(depth), deep(depth), (), ((0,),))):
                self.assertRaises(InvalidPaper, write_paper, ("list", (stand,)))
                self.assertRaises(InvalidPaper, write_paper, ("row", ((2, "s", "a", 7),), 9, ((STAND, stand),)))
            self.unread("list\n" + text, 1)
            self.unread("list\n" + LINE + "\n" + text + "\n" + LINE, 2)

    def unread(self, text, index):
        with self.assertRaises(ParseError) as caught:
            read_paper(text)
        self.assertEqual(caught.exception.index, index, text)

    def test_long_values(self):
        name = "a" * 4000
        wide = tuple(range(700))
        value = ("list", ((name, wide, wide, ((0,),)),))
        self.assertEqual(read_paper(write_paper(value)), value)
        value = ("row", tuple((time, "s", "a", time) for time in range(1200)), 1200, ((OTHER,),) * 1200)
        self.assertEqual(read_paper(write_paper(value)), value)
        rows = tuple(tuple(MOST for _ in range(13)) for _ in range(13))
        value = ("list", (("on", "on", (MOST, -MOST), rows),))
        self.assertEqual(read_paper(write_paper(value)), value)


class Wrong(unittest.TestCase):
    def wrong(self, *values):
        for value in values:
            self.assertRaises(InvalidPaper, write_paper, value)

    def test_what_is_no_paper(self):
        self.wrong(*junk())
        self.wrong(("list",), ("list", (), ()), ("row", (), 0), ("row", (), 0, (), ()), (), ("lists", ()), ("row", ()), ("list", (), 0, ()), ["list", ()], ("List", ()))
        self.wrong(("list", [STAND]), ("list", STAND), ("list", None), ("list", {}), ("list", "on"), ("list", (STAND, None)), ("list", (STAND, [*STAND])))

    def test_one_thing_wrong_in_a_stand(self):
        for value in junk():
            for at in range(4):
                stand = STAND[:at] + (value,) + STAND[at + 1:]
                right = self.may_stand(value, at)
                if right:
                    self.assertEqual(read_paper(write_paper(("list", (stand,)))), ("list", (stand,)))
                else:
                    self.wrong(("list", (stand,)), ("row", ((2, "s", "a", 7),), 9, ((stand,),)))
            inner = ((("a", value), "on"),) + STAND[1:]
            if self.may_stand(value, 0) and not isinstance(value, tuple):
                self.assertEqual(read_paper(write_paper(("list", (inner,)))), ("list", (inner,)))
            for wrong in (True, False, MOST + 1, -MOST - 1, "", "A", "a b", "-", "1", [], {}, ["a"]):
                self.wrong(("list", (((("a", wrong), "on"),) + STAND[1:],)))
        self.wrong(*[("list", (stand,)) for stand in (STAND[:3], STAND + ((),), (), (STAND,), list(STAND))])
        for classes in ((True,), ("a",), (None,), ((),), [0], (MOST + 1,), (0, -MOST - 1)):
            self.wrong(("list", (STAND[:2] + (classes,) + STAND[3:],)))
        for rows in ((), ((),), ((0, 0),), ((0, 0), (0,)), ((0, 0), [0, 0]), [(0,)], ((True,),), ((None,),), ((MOST + 1,),), ((0,) * 14,) * 14, ((0, 0), (0, 0), (0, 0))):
            self.wrong(("list", (STAND[:3] + (rows,),)))

    def may_stand(self, value, at):
        """Whether the value may stand at this place of a stand; values of these tests are nested twenty deep at most."""
        if at < 2:
            return self.is_item(value, 19)
        if at == 2:
            return isinstance(value, tuple) and all(self.is_item(inner, 0) and isinstance(inner, int) for inner in value)
        return False

    def is_item(self, value, depth):
        if isinstance(value, tuple):
            return depth > 0 and all(self.is_item(inner, depth - 1) for inner in value)
        if isinstance(value, str):
            return value != "" and all("a" <= sign <= "z" for sign in value)
        return value is None or (isinstance(value, int) and not isinstance(value, bool) and abs(value) <= MOST)

    def test_one_thing_wrong_in_a_row(self):
        events, rounds = ((2, "s", "a", 7), (2, "t", "b", 7), (5, "s", "a", 7)), ((STAND,), (), (OTHER, OTHER))
        self.assertEqual(read_paper(write_paper(("row", events, 5, rounds))), ("row", events, 5, rounds))
        for last in (4, 0, -1, None, True, "9", MOST + 1, (), [], 10 ** 99):
            self.wrong(("row", events, last, rounds))
        self.wrong(("row", (), -1, ()), ("row", (), True, ()), ("row", (), None, ()))
        for event in ((1, "s", "a", 7), (6, "s", "a", 7), (2, "it", "a", 7), (2, "s", "ab", 7), (2, "s", "A", 7), (2, "S", "a", 7), (2, "s", "a", True), (2, "s", "a", None),
                      (True, "s", "a", 7), (2, "s", "a", MOST + 1), (2, "s", "a"), (2, "s", "a", 7, 7), [2, "s", "a", 7], None, (), (2, "", "a", 7), (2, "s", "", 7)):
            self.wrong(("row", events[:1] + (event,) + events[2:], 5, rounds))
        self.wrong(*[("row", ((2, word, "a", 7),), 9, ((STAND,),)) for word in WORDS])
        self.wrong(("row", list(events), 5, rounds), ("row", events[::-1], 5, rounds), ("row", events, 5, list(rounds)), ("row", events, 5, rounds[1:]))
        self.wrong(("row", events, 5, rounds + ((),)), ("row", events, 5, ()), ("row", (), 5, ((),)), ("row", events, 5, ((STAND,), None, ())))
        self.wrong(("row", events, 5, ((STAND,), (), [OTHER])), ("row", events, 5, (STAND, (), ())), ("row", events, 5, ((STAND, ()), (), ())))

    def test_values_nested_forty_deep(self):
        for kind in (lambda inner: (inner,), lambda inner: [inner], lambda inner: {"s": inner}, lambda inner: ("list", inner), lambda inner: ("list", (inner,)),
                     lambda inner: ("row", (), 0, inner), lambda inner: (inner, "on", (), ((0,),))):
            value = ()
            for _ in range(39):
                value = kind(value)
            self.wrong(value, ("list", value), ("list", (value,)), ("list", ((value, "on", (), ((0,),)),)), ("list", (("on", "on", value, ((0,),)),)),
                       ("list", (("on", "on", (), value),)), ("row", value, 0, ()), ("row", (), value, ()), ("row", (), 0, value))


class Read(unittest.TestCase):
    def unread(self, text, index):
        with self.assertRaises(ParseError) as caught:
            read_paper(text)
        self.assertEqual(caught.exception.index, index, text)

    def test_what_is_no_string(self):
        for value in junk():
            if not isinstance(value, str):
                self.unread(value, None)
            elif value != "":
                self.unread(value, 0)

    def test_first_lines(self):
        for text in ("", "\n", "List", "list ", " list", "lis", "row ", "rows", "round", "until 3", LINE, "listrow", "list row", "\nlist", "2 s a 7"):
            self.unread(text, 0)

    def test_lines_of_lists(self):
        for line in ("", " ", "list", "row", "round", "until 3", "2 s a 7", LINE + " ", " " + LINE, "on", "-", "()", "7", LINE + LINE, LINE[1:], LINE[:-1], "(" + LINE + ")"):
            self.unread("list\n" + line, 1)
            self.unread("list\n" + LINE + "\n" + line, 2)
            self.unread("list\n" + LINE + "\n" + line + "\n" + LINE, 2)
            self.unread("list\n" + line + "\n" + line, 1)

    def test_lines_of_rows(self):
        for text, index in (
            ("row", 1), ("row\n", 1), ("row\nlist", 1), ("row\nround", 1), ("row\n" + LINE, 1), ("row\nuntil", 1), ("row\nuntil ", 1), ("row\nuntil -1", 1),
            ("row\nuntil 03", 1), ("row\nuntil +3", 1), ("row\nuntil 3 ", 1), ("row\nuntil  3", 1), ("row\nuntil 3 4", 1), ("row\nuntil -0", 1), ("row\nUntil 3", 1),
            ("row\nuntil 3\n", 2), ("row\nuntil 3\nround", 2), ("row\nuntil 3\n" + LINE, 2), ("row\nuntil 3\nuntil 3", 2), ("row\nuntil 3\n2 s a 7", 2),
            ("row\n2 s a 7", 2), ("row\n2 s a 7\n", 2), ("row\n2 s a 7\nround", 2), ("row\n2 s a 7\nuntil 1", 2), ("row\n2 s a 7\n1 s a 7", 2),
            ("row\n2 s a 7\nuntil 2", 3), ("row\n2 s a 7\nuntil 2\n", 3), ("row\n2 s a 7\nuntil 2\n" + LINE, 3), ("row\n2 s a 7\nuntil 2\nround\nround", 4),
            ("row\n2 s a 7\nuntil 2\nround\n", 4), ("row\n2 s a 7\nuntil 2\nround\n" + LINE + "\nround", 5), ("row\n2 s a 7\n2 t a 7\nuntil 2\nround", 5),
            ("row\n2 s a 7\n2 t a 7\nuntil 2\nround\n" + LINE, 6), ("row\n2 s a 7\n2 t a 7\nuntil 2\nround\nround\nround", 6), ("row\n2 s a 7\nuntil 2\nround ", 3),
            ("row\n2 s a 7\nuntil 2\nround\n" + LINE + "\n" + LINE + " ", 5), ("row\n2 s a 7\nuntil 2\n2 s a 7", 3),
        ):
            self.unread(text, index)

    def test_lines_of_events(self):
        for line in ("2 s a", "2 s a 7 7", "2  s a 7", " 2 s a 7", "2 s a 7 ", "02 s a 7", "+2 s a 7", "-2 s a 7", "2 s a 07", "2 s a +7", "2 s a -0", "2 s a --7", "2 s a -",
                     "2 S a 7", "2 s ab 7", "2 s A 7", "2 it a 7", "2 switch a 7", "2 abcdefghi a 7", "2 s a 7.0", "2 s a seven", "2 s 7 a", "s 2 a 7", "2 s a " + "9" * 61,
                     "9" * 61 + " s a 7", "2 s a -" + "9" * 61, "2 s a 1" + "0" * 60, "2 s a 1_0", "2 s a " + "9" * 3000, "9" * 3000 + " s a 7", "2 s1 a 7", "2 s a \t7"):
            self.unread("row\n" + line, 1)
            self.unread("row\n" + line + "\nuntil 99\nround", 1)
            self.unread("row\n1 s a 7\n" + line, 2)

    def test_integers_of_sixty_digits_and_more(self):
        for value, right in ((MOST, True), (-MOST, True), (MOST + 1, False), (-MOST - 1, False), (10 ** 200, False), (0, True), (-1, True), (10 ** 59, True)):
            for text in (f"list\n({value} on () ((0)))", f"list\n(on on ({value}) ((0)))", f"list\n(on on () (({value})))"):
                if right:
                    self.assertEqual(write_paper(read_paper(text)), text)
                else:
                    self.unread(text, 1)
        for word in ("+1", "01", "00", "-0", "-01", "--1", "1-", "0x1", "1_000", "9" * 3990, "-" + "0" * 60):
            self.unread(f"list\n({word} on () ((0)))", 1)
            self.unread(f"list\n(on on ({word}) ((0)))", 1)
            self.unread(f"list\n(on on () (({word})))", 1)

    def test_long_and_deep_texts(self):
        for text in ("(" * 3990, ")" * 3990, "(" * 1990 + ")" * 1990, "((" + "() " * 1300, "a" * 3990, "- " * 1990, "(" + "a " * 1900 + ")", "(" + "() " * 1200 + ")", "~" * 3990):
            self.unread("list\n" + text, 1)
            self.unread("list\n" + LINE + "\n" + text, 2)
            self.unread("row\n" + text, 1)
            self.unread("row\nuntil " + text, 1)
            self.unread("row\n2 s a 7\nuntil 3\nround\n" + text, 4)
        self.unread("list" + "\n" * 3990, 1)
        self.unread("\n" * 4000, 0)

    def test_texts_with_one_sign_spoilt(self):
        texts = [text for _, text in PAPERS if len(text) < 120]
        for text in texts:
            for at in range(len(text) + 1):
                for other in [text[:at] + text[at + 1:], text[:at] + text[at:at + 1] + text[at:]] + [text[:at] + sign + text[at:] for sign in "() -+0a\nA"] + [
                        text[:at] + sign + text[at + 1:] for sign in "() -0a\n"]:
                    self.same_or_unread(other)

    def test_texts_with_one_line_spoilt(self):
        for _, text in PAPERS:
            lines = text.split("\n")
            for at in range(len(lines)):
                others = [lines[:at] + lines[at + 1:], lines[:at + 1] + lines[at:], lines[:at] + [""] + lines[at:], lines[:at]]
                others += [lines[:at] + [line] + lines[at + rest:] for line in ("round", "list", "row", "until 5", "2 s a 7", LINE) for rest in (0, 1)]
                for other in others:
                    self.same_or_unread("\n".join(other))

    def same_or_unread(self, text):
        """The value with this text, or the index that a plain check tells."""
        index = self.index_of(text.split("\n"))
        if index is None:
            self.assertEqual(write_paper(read_paper(text)), text)
        else:
            self.unread(text, index)

    def index_of(self, lines):
        """The index of the error, found from prefixes; None without an error."""
        for many in range(1, len(lines) + 1):
            if not self.is_beginning(lines[:many]):
                return many - 1
        return None if self.is_whole(lines) else len(lines)

    def is_whole(self, lines):
        return lines[0] == "list" or (any(line.startswith("until") for line in lines) and lines.count("round") == sum(1 for line in lines if line[:1].isdigit()))

    def is_beginning(self, lines):
        """Whether these lines are the beginning of the lines of a text of a paper."""
        if lines[0] == "list":
            return all(self.is_stand(line) for line in lines[1:])
        if lines[0] != "row":
            return False
        kinds, times, rounds = "r", [0], 0
        for line in lines[1:]:
            event = re.fullmatch(r"(0|[1-9][0-9]{0,59}) ([a-z]{1,8}) ([a-z]) (0|-?[1-9][0-9]{0,59})", line)
            until = re.fullmatch(r"until (0|[1-9][0-9]{0,59})", line)
            if kinds[-1] in "re" and event and event[2] not in WORDS and int(event[1]) >= times[-1]:
                kinds += "e"
                times.append(int(event[1]))
            elif kinds[-1] in "re" and until and int(until[1]) >= times[-1]:
                kinds += "u"
            elif kinds[-1] in "uos" and line == "round" and rounds < len(times) - 1:
                kinds += "o"
                rounds += 1
            elif kinds[-1] in "os" and self.is_stand(line):
                kinds += "s"
            else:
                return False
        return True

    def is_stand(self, line):
        """Whether the line is the text of a stand: by Python's own reading of it."""
        if not re.fullmatch(r"[-a-z0-9() ]+", line) or "  " in line or "( " in line or " )" in line:
            return False
        code = re.sub(r"(?<=[^ (])\(|\)(?=[^ )])", "!", line)
        code = re.sub(r"-?[a-z0-9]+|-", lambda found: "None," if found[0] == "-" else (repr(found[0]) if found[0].isalpha() else found[0]) + ",", code).replace(")", "),")
        try:
            value = ast.literal_eval(code.replace("(,", "(").strip())[0]
        except (SyntaxError, ValueError, TypeError, IndexError):
            return False
        return isinstance(value, tuple) and len(value) == 4 and item(value) == line and self.has_form(value)

    def has_form(self, value):
        if not isinstance(value[2], tuple) or not all(type(number) is int for number in value[2]):
            return False
        rows = value[3]
        return isinstance(rows, tuple) and len(rows) > 0 and all(
            isinstance(row, tuple) and len(row) == len(rows) and all(type(number) is int for number in row) for row in rows)


if __name__ == "__main__":
    unittest.main()
