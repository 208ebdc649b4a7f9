"""What leaves and operators over one part do, each with its states."""

from tests.scripts import Plays, e

END = ("over", (), ())


class Leaves(Plays):
    def test_source(self):
        self.plays("s", [], ("on", (), ()), [])
        self.plays("s", [e("s a", 7), 3, e("s b", -8), e("t a", 9)], ("on", (), ()), [(0, (("a", (7,)),)), (3, (("b", (-8,)),))])

    def test_never(self):
        self.plays("(never 3)", [e("s a"), 5], ("on", (), ()), [])

    def test_one(self):
        self.plays("(one z)", [], END, [(-1, (("z", ()), "end"))])
        self.plays("(one z)", [e("s a"), 4, e("s a")], END, [(-1, (("z", ()), "end"))])

    def test_after(self):
        self.plays("(after 3 z)", [], ("on", (), (0,)), [])
        self.plays("(after 3 z)", [e("s a"), 2], ("on", (), (2,)), [])
        self.plays("(after 3 z)", [2, e("s a"), 1, e("s a"), 9], END, [(3, (("z", ()), "end"))])
        self.plays("(after 1 z)", [1], END, [(1, (("z", ()), "end"))])

    def test_every(self):
        self.plays("(every 3 z)", [8], ("on", (), (2,)), [(3, (("z", ()),)), (6, (("z", ()),))])
        self.plays("(every 1 z)", [2], ("on", (), (0,)), [(1, (("z", ()),)), (2, (("z", ()),))])

    def test_long_times(self):
        d = 10 ** 40 - 1
        self.plays(f"(after {d} z)", [d - 1], ("on", (), (d - 1,)), [])
        self.plays(f"(after {d} z)", [d], END, [(d, (("z", ()), "end"))])


class Changing(Plays):
    """Operators that tell of the list of their part, and have no clock."""

    def test_only(self):
        self.plays("(only ac s)", [e("s a"), e("s b"), e("s c", 2)], (("on",), (), ()), [(0, (("a", (1,)),)), (0, (("c", (2,)),))])
        self.plays("(only a (one b))", [], END, [(-1, ("end",))])
        self.plays("(only b (+ (one a) (+ (one b) (one b))))", [], END, [(-1, (("b", ()), ("b", ()), "end"))])
        self.plays("(only z (after 3 z))", [1], (("on",), (), (1,)), [])

    def test_pick(self):
        self.plays("(pick - s)", [e("s a", 7)], (("on",), (), ()), [(0, (("a", ()),))])
        self.plays("(pick 0,0 s)", [e("s a", 7)], (("on",), (), ()), [(0, (("a", (7, 7)),))])
        self.plays("(pick 1,0,1 (pairs s))", [e("s a", 7), e("s b", 8)], (((1, "on"),), (8,), ()), [(0, (("b", (8, 7, 8)),))])
        self.plays("(pick - (one z))", [], END, [(-1, (("z", ()), "end"))])

    def test_fold(self):
        text = "(fold 0a1b,1a0-,1b5z,5a5a s)"
        self.plays(text, [], ((0, "on"), (), ()), [])
        self.plays(text, [e("s b")], ((0, "on"), (), ()), [])
        self.plays(text, [e("s a", 4)], ((1, "on"), (), ()), [(0, (("b", (4,)),))])
        self.plays(text, [e("s a"), e("s a")], ((0, "on"), (), ()), [(0, (("b", (1,)),))])
        self.plays(text, [e("s a"), e("s c")], ((1, "on"), (), ()), [(0, (("b", (1,)),))])
        self.plays(text, [e("s a"), e("s b", 9), e("s b"), e("s a", 3)], ((5, "on"), (), ()),
                   [(0, (("b", (1,)),)), (0, (("z", (9,)),)), (0, (("a", (3,)),))])
        self.plays("(fold 0a1b,1b0c (+ s (fold 0a0b s)))", [e("s a")], ((0, ("on", (0, "on"))), (), ()), [(0, (("b", (1,)), ("c", (1,))))])
        self.plays("(fold 0z8- (after 2 z))", [2], END, [(2, ("end",))])

    def test_first(self):
        self.plays("(first 2 s)", [], ((2, "on"), (), ()), [])
        self.plays("(first 2 s)", [e("s a")], ((1, "on"), (), ()), [(0, (("a", (1,)),))])
        self.plays("(first 2 s)", [e("s a"), e("s b"), e("s c")], END, [(0, (("a", (1,)),)), (0, (("b", (1,)), "end"))])
        self.plays("(first 1 (+ s s))", [e("s a")], END, [(0, (("a", (1,)), "end"))])
        self.plays("(first 3 (+ s s))", [e("s a"), e("s b")], END, [(0, (("a", (1,)),) * 2), (0, (("b", (1,)), "end"))])
        self.plays("(first 2 (+ (pick - s) (after 3 z)))", [e("s a"), 3], END, [(0, (("a", ()),)), (3, (("z", ()), "end"))])
        self.plays("(first 9 (after 3 z))", [3], END, [(3, (("z", ()), "end"))])
        self.plays("(first 1 (after 3 z))", [3], END, [(3, (("z", ()), "end"))])
        self.plays("(first 9 (one z))", [], END, [(-1, (("z", ()), "end"))])
        self.plays("(first 1 (+ (one y) (+ (one z) (never 0))))", [], END, [(-1, (("y", ()), "end"))])
        self.plays("(first 3 (+ (one y) (never 0)))", [], ((2, ("over", "on")), (), ()), [(-1, (("y", ()),))])

    def test_changes(self):
        self.plays("(changes s)", [], ((0, "on"), (), ()), [])
        self.plays("(changes s)", [e("s a", 7)], ((1, "on"), (7,), ()), [(0, (("a", (7,)),))])
        self.plays("(changes s)", [e("s a", 7), e("s b", 7)], ((1, "on"), (7,), ()), [(0, (("a", (7,)),))])
        self.plays("(changes s)", [e("s a", 7), e("s b", 8), e("s b", 7), 4, e("s c", 7)], ((1, "on"), (7,), ()),
                   [(0, (("a", (7,)),)), (0, (("b", (8,)),)), (0, (("b", (7,)),))])
        self.plays("(changes (+ s (+ s s)))", [e("s a", 7)], ((1, ("on", ("on", "on"))), (7,), ()), [(0, (("a", (7,)),))])
        self.plays("(changes (pick 1,0 (pairs s)))", [e("s a", 1), e("s a", 1), e("s a", 2), e("s a", 1)],
                   ((1, ((1, "on"),)), (1, 2, 1), ()), [(0, (("a", (1, 1)),)), (0, (("a", (2, 1)),)), (0, (("a", (1, 2)),))])
        self.plays("(changes (until s t))", [e("s a"), e("t a")], END, [(0, (("a", (1,)),)), (0, ("end",))])

    def test_pairs(self):
        self.plays("(pairs s)", [], ((0, "on"), (), ()), [])
        self.plays("(pairs s)", [e("s a", 7)], ((1, "on"), (7,), ()), [])
        self.plays("(pairs s)", [e("s a", 7), e("s b", 8), e("s c", 8)], ((1, "on"), (8,), ()), [(0, (("b", (7, 8)),)), (0, (("c", (8, 8)),))])
        self.plays("(pairs (+ s (only b s)))", [e("s b", 7)], ((1, ("on", ("on",))), (7,), ()), [(0, (("b", (7, 7)),))])
        self.plays("(pairs (+ (one y) (one z)))", [], END, [(-1, (("z", ()), "end"))])
        self.plays("(pairs (after 2 z))", [2], END, [(2, ("end",))])
        self.plays("(pairs (every 2 z))", [5], ((1, "on"), (), (1,)), [(4, (("z", ()),))])


class Quiet(Plays):
    def test_an_output_waits(self):
        self.plays("(quiet 3 s)", [], ((None, "on"), (), ()), [])
        self.plays("(quiet 3 s)", [e("s a", 7), 2], (("a", "on"), (7,), (2,)), [])
        self.plays("(quiet 3 s)", [e("s a", 7), 3], ((None, "on"), (), ()), [(3, (("a", (7,)),))])
        self.plays("(quiet 1 s)", [4, e("s a", 7), 1], ((None, "on"), (), ()), [(5, (("a", (7,)),))])

    def test_a_later_one_takes_its_place(self):
        self.plays("(quiet 3 s)", [e("s a", 7), 2, e("s b", 8), 2], (("b", "on"), (8,), (2,)), [])
        self.plays("(quiet 3 s)", [e("s a", 7), 2, e("s b", 8), 9], ((None, "on"), (), ()), [(5, (("b", (8,)),))])
        self.plays("(quiet 3 s)", [e("s a", 7), 3, e("s b", 8), 2], (("b", "on"), (8,), (2,)), [(3, (("a", (7,)),))])
        self.plays("(quiet 3 (+ s (only b s)))", [e("s b", 7), e("t a")], (("b", ("on", ("on",))), (7,), (0,)), [])

    def test_its_clock_goes_off_before_it_hears(self):
        self.plays("(quiet 2 (every 2 z))", [4], (("z", "on"), (), (0, 0)), [(4, (("z", ()),))])
        self.plays("(quiet 2 (every 2 z))", [7], (("z", "on"), (), (1, 1)), [(4, (("z", ()),)), (6, (("z", ()),))])
        self.plays("(quiet 3 (every 2 z))", [9], (("z", "on"), (), (1, 1)), [])

    def test_an_end(self):
        self.plays("(quiet 5 (until s t))", [e("s a", 7), 2, e("t a")], END, [(2, (("a", (7,)), "end"))])
        self.plays("(quiet 5 (until s t))", [e("t a")], END, [(0, ("end",))])
        self.plays("(quiet 5 (after 2 z))", [2], END, [(2, (("z", ()), "end"))])
        self.plays("(quiet 5 (first 2 s))", [e("s a", 7), 2, e("s b", 8)], END, [(2, (("b", (8,)), "end"))])
        self.plays("(quiet 5 (one z))", [], END, [(-1, (("z", ()), "end"))])
        self.plays("(quiet 5 (+ (one y) (one z)))", [], END, [(-1, (("z", ()), "end"))])
        self.plays("(quiet 5 (only a (one z)))", [], END, [(-1, ("end",))])

    def test_an_end_when_its_clock_is_due(self):
        self.plays("(quiet 2 (first 2 (every 2 z)))", [4], END, [(4, (("z", ()), ("z", ()), "end"))])
        self.plays("(quiet 2 (until (every 2 y) (after 4 z)))", [4], END, [(4, (("y", ()), ("y", ()), "end"))])
        self.plays("(quiet 2 (until s (after 2 z)))", [e("s a", 7), 2], END, [(2, (("a", (7,)), "end"))])

    def test_at_the_begin(self):
        self.plays("(quiet 5 (+ (one y) (never 0)))", [], (("y", ("over", "on")), (), (0,)), [])
        self.plays("(quiet 5 (+ (one y) (never 0)))", [6], ((None, ("over", "on")), (), ()), [(5, (("y", ()),))])

    def test_over_another(self):
        self.plays("(quiet 5 (quiet 3 s))", [e("s a", 7), 4], (("a", (None, "on")), (7,), (1,)), [])
        self.plays("(quiet 5 (quiet 3 s))", [e("s a", 7), 4, e("s b", 8), 1], (("a", ("b", "on")), (7, 8), (2, 1)), [])
        self.plays("(quiet 3 (quiet 3 s))", [e("s a", 7), 3, e("s b", 8), 3], (("b", (None, "on")), (8,), (0,)), [(6, (("a", (7,)),))])


class Spaced(Plays):
    def test_others_are_lost(self):
        self.plays("(spaced 3 s)", [], ((0, "on"), (), ()), [])
        self.plays("(spaced 3 s)", [e("s a", 7), 2, e("s b", 8)], ((1, "on"), (), (2,)), [(0, (("a", (7,)),))])
        self.plays("(spaced 3 s)", [e("s a", 7), 3], ((0, "on"), (), ()), [(0, (("a", (7,)),))])
        self.plays("(spaced 3 s)", [e("s a", 7), 3, e("s b", 8), e("s c", 9), 1], ((1, "on"), (), (1,)), [(0, (("a", (7,)),)), (3, (("b", (8,)),))])
        self.plays("(spaced 3 (+ s s))", [e("s a", 7)], ((1, ("on", "on")), (), (0,)), [(0, (("a", (7,)),))])

    def test_its_clock_goes_off_before_it_hears(self):
        self.plays("(spaced 3 (every 3 z))", [7], ((1, "on"), (), (1, 1)), [(3, (("z", ()),)), (6, (("z", ()),))])
        self.plays("(spaced 4 (every 3 z))", [10], ((1, "on"), (), (1, 1)), [(3, (("z", ()),)), (9, (("z", ()),))])
        self.plays("(spaced 2 (every 3 z))", [7], ((1, "on"), (), (1, 1)), [(3, (("z", ()),)), (6, (("z", ()),))])

    def test_an_end(self):
        self.plays("(spaced 3 (first 1 s))", [e("s a", 7)], END, [(0, (("a", (7,)), "end"))])
        self.plays("(spaced 3 (first 2 s))", [e("s a", 7), 1, e("s b", 8)], END, [(0, (("a", (7,)),)), (1, ("end",))])
        self.plays("(spaced 3 (+ (one y) (one z)))", [], END, [(-1, (("y", ()), "end"))])
        self.plays("(spaced 3 (+ (one y) (after 3 z)))", [3], END, [(-1, (("y", ()),)), (3, (("z", ()), "end"))])
        self.plays("(spaced 3 (+ (one y) (after 2 z)))", [3], END, [(-1, (("y", ()),)), (2, ("end",))])


class Late(Plays):
    def test_outputs_are_on_the_way(self):
        self.plays("(late 3 1 s)", [], (((), "on"), (), ()), [])
        self.plays("(late 3 1 s)", [e("s a", 7), 2], ((("a",), "on"), (7,), (2,)), [])
        self.plays("(late 3 1 s)", [e("s a", 7), 3], (((), "on"), (), ()), [(3, (("a", (7,)),))])
        self.plays("(late 3 1 s)", [e("s a", 7), 2, e("s b", 8), 9], (((), "on"), (), ()), [(3, (("a", (7,)),))])
        self.plays("(late 3 2 s)", [e("s a", 7), 2, e("s b", 8)], ((("a", "b"), "on"), (7, 8), (2, 0)), [])
        self.plays("(late 3 2 s)", [e("s a", 7), 2, e("s b", 8), e("s c", 9), 2], ((("b",), "on"), (8,), (2,)), [(3, (("a", (7,)),))])
        self.plays("(late 3 3 s)", [e("s c", 9), 1, e("s a", 7), 1, e("s b", 8)], ((("c", "a", "b"), "on"), (9, 7, 8), (2, 1, 0)), [])

    def test_several_at_one_moment(self):
        self.plays("(late 3 2 s)", [e("s b", 8), e("s a", 7), 3], (((), "on"), (), ()), [(3, (("b", (8,)), ("a", (7,))))])
        self.plays("(late 3 2 (+ s (+ s s)))", [e("s b", 8), 3], (((), ("on", ("on", "on"))), (), ()), [(3, (("b", (8,)), ("b", (8,))))])
        self.plays("(late 3 3 s)", [e("s b", 8), e("s a", 7), 1, e("s c", 9), 2], ((("c",), "on"), (9,), (2,)), [(3, (("b", (8,)), ("a", (7,))))])

    def test_what_is_due_makes_room(self):
        self.plays("(late 2 1 (every 1 z))", [6], ((("z",), "on"), (), (1, 0)), [(3, (("z", ()),)), (5, (("z", ()),))])
        self.plays("(late 2 2 (every 1 z))", [4], ((("z", "z"), "on"), (), (1, 0, 0)), [(3, (("z", ()),)), (4, (("z", ()),))])

    def test_an_end(self):
        self.plays("(late 3 1 (after 2 z))", [2], ((("z",), "over"), (), (0,)), [])
        self.plays("(late 3 1 (after 2 z))", [4], ((("z",), "over"), (), (2,)), [])
        self.plays("(late 3 1 (after 2 z))", [5], END, [(5, (("z", ()), "end"))])
        self.plays("(late 3 1 (until s t))", [e("t a")], END, [(0, ("end",))])
        self.plays("(late 3 1 (until s t))", [e("s a"), 3, e("t a")], END, [(3, (("a", (1,)),)), (3, ("end",))])
        self.plays("(late 3 2 (until s t))", [e("s a", 7), 1, e("s b", 8), e("t a"), 1], ((("a", "b"), "over"), (7, 8), (2, 1)), [])
        self.plays("(late 3 2 (until s t))", [e("s a", 7), 1, e("s b", 8), e("t a"), 2], ((("b",), "over"), (8,), (2,)), [(3, (("a", (7,)),))])
        self.plays("(late 3 2 (until s t))", [e("s a", 7), 1, e("s b", 8), e("t a"), 9], END, [(3, (("a", (7,)),)), (4, (("b", (8,)), "end"))])
        self.plays("(late 3 1 (until s (after 3 z)))", [e("s a", 7), 3], END, [(3, (("a", (7,)), "end"))])

    def test_at_the_begin(self):
        self.plays("(late 3 1 (one z))", [], ((("z",), "over"), (), (0,)), [])
        self.plays("(late 3 1 (+ (one y) (one z)))", [4], END, [(3, (("y", ()), "end"))])
        self.plays("(late 3 1 (only a (one z)))", [], END, [(-1, ("end",))])


class Again(Plays):
    def test_begun_again_at_the_same_cause(self):
        self.plays("(again (after 2 z))", [5], (("on",), (), (1,)), [(2, (("z", ()),)), (4, (("z", ()),))])
        self.plays("(again (first 1 s))", [e("s a"), e("s b")], (((1, "on"),), (), ()), [(0, (("a", (1,)),)), (0, (("b", (1,)),))])
        self.plays("(again (until s t))", [e("t a"), e("s a")], ((("on", "on"),), (), ()), [(0, (("a", (1,)),))])
        self.plays("(again (first 2 (changes s)))", [e("s a", 7), e("s a", 8), e("s a", 8)], (((1, (1, "on")),), (8,), ()),
                   [(0, (("a", (7,)),)), (0, (("a", (8,)),)), (0, (("a", (8,)),))])

    def test_the_begin_list_takes_the_place_of_the_end(self):
        self.plays("(again (+ (one y) (after 2 z)))", [2], ((("over", "on"),), (), (0,)), [(-1, (("y", ()),)), (2, (("z", ()), ("y", ())))])
        self.plays("(again (late 2 1 (one z)))", [4], (((("z",), "over"),), (), (0,)), [(2, (("z", ()),)), (4, (("z", ()),))])

    def test_what_is_begun_at_an_event_does_not_hear_it(self):
        self.plays("(again (then (first 1 s) (first 1 s)))", [e("s a"), e("s b"), e("s c")], (((2, (1, "on")),), (), ()),
                   [(0, (("a", (1,)),)), (0, (("b", (1,)),)), (0, (("c", (1,)),))])

    def test_what_is_begun_at_a_moment_hears_the_events_of_this_time(self):
        self.plays("(again (until s (after 2 z)))", [2, e("s a")], ((("on", "on"),), (), (0,)), [(2, (("a", (1,)),))])
