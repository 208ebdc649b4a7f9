import copy
import unittest

from pushalike.base import words
from tests.samples import MOST, WORDS, junk, nested

NAMES = ("is_letter", "is_name", "is_layout", "is_event", "is_output", "is_list")


class Kinds(unittest.TestCase):
    def right(self, name, values):
        for value in values:
            self.assertIs(getattr(words, name)(value), True, value)

    def wrong(self, name, values):
        for value in values:
            self.assertIs(getattr(words, name)(value), False, value)


class EveryFunction(Kinds):
    def test_other_values_are_refused(self):
        for name in NAMES:
            for value in junk():
                self.assertIs(getattr(words, name)(value), False, name)

    def test_values_that_contain_others_are_refused(self):
        for name in NAMES:
            for value in junk():
                # A tuple of nothing but outputs is a list, and none of these values is an output.
                self.wrong(name, [(value,), [value], {"s": value}, (value, value, value), (0, "s", "a", value, 1)])

    def test_nothing_is_changed(self):
        for name in NAMES:
            value = {"s": ["a", {"t": ("b",)}], "t": ("a",)}
            before = copy.deepcopy(value)
            getattr(words, name)(value)
            getattr(words, name)(value["s"])
            self.assertEqual(value, before)


class Letters(Kinds):
    def test_each_letter(self):
        self.right("is_letter", "abcdefghijklmnopqrstuvwxyz")

    def test_signs_beside_them(self):
        self.wrong("is_letter", ["`", "{", "A", "Z", "0", "", "aa", "ab", "a\n", " a", "abc", ("a",), ["a"], b"a", 97])


class Names(Kinds):
    def test_one_to_eight_letters(self):
        self.right("is_name", ["a", "z", "s", "ab", "sources", "abcdefgh", "zzzzzzzz", "end", "last", "list"])

    def test_other_lengths_and_signs(self):
        self.wrong("is_name", ["", "abcdefghi", "a1", "1a", "A", "aB", "a b", "a_b", "a-b", "a\n", " a", "a ", "+", "&"])

    def test_the_words_of_trees_are_none(self):
        self.assertEqual(len(WORDS), 23)
        self.wrong("is_name", WORDS)

    def test_words_alike_are_names(self):
        self.right("is_name", [word + "x" for word in WORDS if len(word) < 8])
        self.right("is_name", ["x" + word for word in WORDS if len(word) < 8])
        self.right("is_name", [word[:-1] for word in WORDS if word[:-1] not in WORDS])

    def test_other_kinds(self):
        self.wrong("is_name", [("s",), ["s"], {"s": 1}, ("s", "t"), 1, True, None, b"s"])


class Layouts(Kinds):
    def test_one_to_four_sources(self):
        for names in ("s", "st", "stuv"):
            self.right("is_layout", [{name: ("a",) for name in names}])
        self.wrong("is_layout", [{}, {name: ("a",) for name in "stuvw"}])

    def test_one_to_four_letters(self):
        self.right("is_layout", [{"s": ("a",)}, {"s": ("z",)}, {"s": ("a", "b", "y", "z")}, {"s": ("b",), "t": ("a", "c")}])
        self.wrong("is_layout", [{"s": ()}, {"s": ("a", "b", "c", "d", "e")}, {"s": ("a",), "t": ()}])

    def test_letters_ascend(self):
        self.wrong("is_layout", [{"s": ("b", "a")}, {"s": ("a", "a")}, {"s": ("a", "c", "b")}, {"s": ("a", "b", "b")}])

    def test_letters_are_letters(self):
        self.wrong("is_layout", [{"s": ("a", "bc")}, {"s": ("A",)}, {"s": ("",)}, {"s": (1,)}, {"s": ("a", None)}])
        self.wrong("is_layout", [{"s": ("a", 1)}, {"s": (("a",),)}, {"s": (["a"], "b")}, {"s": ({}, {})}])

    def test_letters_are_a_tuple(self):
        self.wrong("is_layout", [{"s": ["a"]}, {"s": "a"}, {"s": "ab"}, {"s": {"a": 1}}, {"s": None}, {"s": 1}])

    def test_sources_are_names(self):
        self.wrong("is_layout", [{"": ("a",)}, {"S": ("a",)}, {"then": ("a",)}, {"abcdefghi": ("a",)}])
        self.wrong("is_layout", [{1: ("a",)}, {None: ("a",)}, {("s",): ("a",)}, {"s": ("a",), True: ("a",)}])

    def test_a_layout_is_a_dict(self):
        self.wrong("is_layout", [(("s", ("a",)),), [("s", ("a",))], "s", None, 4])


class Events(Kinds):
    def test_times(self):
        self.right("is_event", [(time, "s", "a", 7) for time in (0, 1, MOST)])
        self.wrong("is_event", [(time, "s", "a", 7) for time in (-1, MOST + 1, -MOST, True, False, None, "0", (0,))])

    def test_sources(self):
        self.right("is_event", [(0, name, "a", 7) for name in ("s", "abcdefgh", "z")])
        self.wrong("is_event", [(0, name, "a", 7) for name in ("", "it", "source", "abcdefghi", "S", 1, None, ("s",), ["s"])])

    def test_letters(self):
        self.right("is_event", [(0, "s", letter, 7) for letter in "az"])
        self.wrong("is_event", [(0, "s", letter, 7) for letter in ("", "ab", "A", 1, None, ("a",), ["a"])])

    def test_values(self):
        self.right("is_event", [(0, "s", "a", value) for value in (0, -1, MOST, -MOST)])
        self.wrong("is_event", [(0, "s", "a", value) for value in (MOST + 1, -MOST - 1, True, False, None, "1", (1,), [])])

    def test_four_items_of_a_tuple(self):
        self.wrong("is_event", [(0, "s", "a"), (0, "s", "a", 1, 1), (), [0, "s", "a", 1], "0sa1", ((0, "s", "a", 1),)])


class Outputs(Kinds):
    def test_zero_to_four_values(self):
        self.right("is_output", [("a", ()), ("z", (1,)), ("a", (1, 1)), ("a", (3, 2, 1)), ("a", (0, -1, MOST, -MOST))])
        self.wrong("is_output", [("a", (1, 2, 3, 4, 5)), ("a", tuple(range(100)))])

    def test_letters(self):
        self.wrong("is_output", [(letter, ()) for letter in ("", "ab", "A", 1, None, True, ("a",), ["a"], "end")])

    def test_values(self):
        wrong = (MOST + 1, -MOST - 1, True, False, None, "1", (), (1,), [1])
        self.wrong("is_output", [("a", (value,)) for value in wrong])
        self.wrong("is_output", [("a", (1, 2, value)) for value in wrong])
        self.wrong("is_output", [("a", values) for values in ([], [1], 1, None, "", "12", {}, {1: 1})])

    def test_a_pair_is_a_tuple_of_two(self):
        self.wrong("is_output", [["a", ()], ("a",), ("a", (), ()), "a", "ab", (), {"a": ()}, (("a", ()),)])


class Lists(Kinds):
    def test_outputs_and_perhaps_an_end(self):
        one = ("a", (1,))
        self.right("is_list", [(), (one,), (one, one), (("b", ()), one), ("end",), (one, "end"), (one, one, "end")])
        self.right("is_list", [(one,) * 50, (one,) * 50 + ("end",), (("a", (1, 2, 3, MOST)), ("b", ()))])

    def test_an_end_stands_at_the_end_alone(self):
        one = ("a", ())
        self.wrong("is_list", [("end", "end"), ("end", one), (one, "end", "end"), (one, "end", one), ("end", one, "end")])

    def test_other_items(self):
        one = ("a", ())
        for item in ("a", "", "END", "ends", None, 1, True, (), ("a",), ["a", ()], ("a", []), ("a", (True,)), (one,), []):
            self.wrong("is_list", [(item,), (one, item), (item, one), (item, "end"), (one, item, "end")])
        self.wrong("is_list", [(("a", (1, 2, 3, 4, 5)),), (one, ("end",)), (["end"],)])

    def test_a_list_is_a_tuple(self):
        self.wrong("is_list", [[], [("a", ())], ["end"], "end", "", None, {}, {"a": ()}, ("a", ()), nested("tuple", 3)])
