"""What operators over two parts do, each with its states."""

from tests.scripts import Plays, e

END = ("over", (), ())


class Plus(Plays):
    def test_the_first_part_comes_first(self):
        self.plays("(+ s (fold 0a0b s))", [e("s a", 7)], (("on", (0, "on")), (), ()), [(0, (("a", (7,)), ("b", (7,))))])
        self.plays("(+ s t)", [e("t a", 7), e("s b", 8)], (("on", "on"), (), ()), [(0, (("a", (7,)),)), (0, (("b", (8,)),))])
        self.plays("(+ (every 2 y) (after 2 z))", [3], (("on", "over"), (), (1,)), [(2, (("y", ()), ("z", ())))])

    def test_over_when_both_are(self):
        self.plays("(+ (one y) (one z))", [], END, [(-1, (("y", ()), ("z", ()), "end"))])
        self.plays("(+ (one y) (after 2 z))", [1], (("over", "on"), (), (1,)), [(-1, (("y", ()),))])
        self.plays("(+ (after 3 y) (after 2 z))", [2], (("on", "over"), (), (2,)), [(2, (("z", ()),))])
        self.plays("(+ (after 3 y) (after 2 z))", [3], END, [(2, (("z", ()),)), (3, (("y", ()), "end"))])
        self.plays("(+ (first 1 s) (first 1 s))", [e("s a", 7)], END, [(0, (("a", (7,)), ("a", (7,)), "end"))])
        self.plays("(+ (until s t) (first 1 s))", [e("s a"), e("t b")], END, [(0, (("a", (1,)), ("a", (1,)))), (0, ("end",))])


class Both(Plays):
    def test_as_soon_as_both_have_told(self):
        self.plays("(& s t)", [], ((0, 0, "on", "on"), (), ()), [])
        self.plays("(& s t)", [e("s a", 7)], ((1, 0, "on", "on"), (7,), ()), [])
        self.plays("(& s t)", [e("t a", 7)], ((0, 1, "on", "on"), (7,), ()), [])
        self.plays("(& s t)", [e("s a", 7), e("s b", 6), e("t c", 8)], ((1, 1, "on", "on"), (6, 8), ()), [(0, (("c", (6, 8)),))])
        self.plays("(& s t)", [e("t c", 8), e("s a", 7), 2, e("s b", 7), e("t a", 9)], ((1, 1, "on", "on"), (7, 9), ()),
                   [(0, (("a", (7, 8)),)), (2, (("b", (7, 8)),)), (2, (("a", (7, 9)),))])

    def test_at_one_cause_the_first_part_meets_elder_values(self):
        self.plays("(& s s)", [e("s a", 7)], ((1, 1, "on", "on"), (7, 7), ()), [(0, (("a", (7, 7)),))])
        self.plays("(& s s)", [e("s a", 7), e("s b", 8)], ((1, 1, "on", "on"), (8, 8), ()),
                   [(0, (("a", (7, 7)),)), (0, (("b", (8, 7)), ("b", (8, 8))))])
        self.plays("(& (+ s s) s)", [e("s a", 7), e("s b", 8)], ((1, 1, ("on", "on"), "on"), (8, 8), ()),
                   [(0, (("a", (7, 7)),)), (0, (("b", (8, 7)), ("b", (8, 7)), ("b", (8, 8))))])
        self.plays("(& s (+ s s))", [e("s a", 7)], ((1, 1, "on", ("on", "on")), (7, 7), ()), [(0, (("a", (7, 7)), ("a", (7, 7))))])

    def test_widths(self):
        self.plays("(& (one z) s)", [e("s a", 7)], ((1, 1, "over", "on"), (7,), ()), [(0, (("a", (7,)),))])
        self.plays("(& (pairs s) s)", [e("s a", 7), e("s b", 8)], ((1, 1, (1, "on"), "on"), (7, 8, 8, 8), ()), [(0, (("b", (7, 8, 7)), ("b", (7, 8, 8))))])
        self.plays("(& (one y) (one z))", [], END, [(-1, (("z", ()), "end"))])
        self.plays("(& (+ (one y) (never 0)) (one z))", [], ((1, 1, ("over", "on"), "over"), (), ()), [(-1, (("z", ()),))])

    def test_parts_that_are_over(self):
        self.plays("(& (first 1 s) t)", [e("s a", 7), e("t b", 8), e("s c", 9), e("t d", 6)], ((1, 1, "over", "on"), (7, 6), ()),
                   [(0, (("b", (7, 8)),)), (0, (("d", (7, 6)),))])
        self.plays("(& (until s t) t)", [e("t b", 8), e("t c", 9), e("s a", 7)], ((0, 1, "over", "on"), (9,), ()), [])
        self.plays("(& (until s t) (first 2 t))", [e("t b", 8), e("t c", 9)], END, [(0, ("end",))])
        self.plays("(& (first 1 s) (first 1 s))", [e("s a", 7)], END, [(0, (("a", (7, 7)), "end"))])
        self.plays("(& (only a (one b)) (one z))", [], END, [(-1, ("end",))])


class At(Plays):
    def test_the_kept_output(self):
        self.plays("(at s t)", [], ((None, "on", "on"), (), ()), [])
        self.plays("(at s t)", [e("s a", 7)], (("a", "on", "on"), (7,), ()), [])
        self.plays("(at s t)", [e("t c", 9), e("s a", 7), e("s b", 8), 2, e("t c", 9)], ((None, "on", "on"), (), ()), [(2, (("b", (8,)),))])
        self.plays("(at s t)", [e("s a", 7), e("t c"), e("t c")], ((None, "on", "on"), (), ()), [(0, (("a", (7,)),))])
        self.plays("(at s (+ t t))", [e("s a", 7), e("t c")], ((None, "on", ("on", "on")), (), ()), [(0, (("a", (7,)),))])

    def test_at_one_cause(self):
        self.plays("(at s s)", [e("s a", 7)], ((None, "on", "on"), (), ()), [(0, (("a", (7,)),))])
        self.plays("(at (+ s (fold 0a0b s)) s)", [e("s a", 7)], ((None, ("on", (0, "on")), "on"), (), ()), [(0, (("b", (7,)),))])
        self.plays("(at (every 2 y) (every 3 z))", [9], ((None, "on", "on"), (), (1, 0)), [(3, (("y", ()),)), (6, (("y", ()),)), (9, (("y", ()),))])

    def test_ends(self):
        self.plays("(at (first 1 s) t)", [e("s a", 7)], (("a", "over", "on"), (7,), ()), [])
        self.plays("(at (first 1 s) t)", [e("s a", 7), e("t c")], ((None, "over", "on"), (), ()), [(0, (("a", (7,)),))])
        self.plays("(at s (first 2 t))", [e("s a", 7), e("t c"), e("t c")], END, [(0, (("a", (7,)),)), (0, ("end",))])
        self.plays("(at s (first 1 t))", [e("s a", 7), e("t c")], END, [(0, (("a", (7,)), "end"))])
        self.plays("(at s (until t u))", [e("s a", 7), e("u c")], END, [(0, ("end",))])
        self.plays("(at (one y) (one z))", [], END, [(-1, (("y", ()), "end"))])
        self.plays("(at s (one z))", [], END, [(-1, ("end",))])
        self.plays("(at (one y) s)", [], (("y", "over", "on"), (), ()), [])


class Until(Plays):
    def test_at_the_first_output_of_the_second_part(self):
        self.plays("(until s t)", [e("s a", 7), e("s b", 8)], (("on", "on"), (), ()), [(0, (("a", (7,)),)), (0, (("b", (8,)),))])
        self.plays("(until s t)", [e("s a", 7), e("t b", 8), e("s c")], END, [(0, (("a", (7,)),)), (0, ("end",))])
        self.plays("(until s s)", [e("s a", 7)], END, [(0, (("a", (7,)), "end"))])
        self.plays("(until (every 2 y) (after 4 z))", [5], END, [(2, (("y", ()),)), (4, (("y", ()), "end"))])
        self.plays("(until s (only b s))", [e("s a", 7), e("s b", 8)], END, [(0, (("a", (7,)),)), (0, (("b", (8,)), "end"))])

    def test_ends(self):
        self.plays("(until (first 1 s) t)", [e("s a", 7)], END, [(0, (("a", (7,)), "end"))])
        self.plays("(until s (only b (first 1 t)))", [e("t a", 7), e("s a", 8)], (("on", "over"), (), ()), [(0, (("a", (8,)),))])
        self.plays("(until (one y) (one z))", [], END, [(-1, (("y", ()), "end"))])
        self.plays("(until s (one z))", [], END, [(-1, ("end",))])
        self.plays("(until s (only a (one z)))", [], (("on", "over"), (), ()), [])


class Then(Plays):
    def test_one_after_the_other(self):
        self.plays("(then (first 1 s) t)", [], ((1, (1, "on")), (), ()), [])
        self.plays("(then (first 1 s) t)", [e("t b", 8), e("s a", 7)], ((2, "on"), (), ()), [(0, (("a", (7,)),))])
        self.plays("(then (first 1 s) t)", [e("s a", 7), e("s a", 6), e("t b", 8)], ((2, "on"), (), ()), [(0, (("a", (7,)),)), (0, (("b", (8,)),))])
        self.plays("(then (first 1 s) s)", [e("s a", 7)], ((2, "on"), (), ()), [(0, (("a", (7,)),))])

    def test_the_begin_list_takes_the_place_of_the_end(self):
        self.plays("(then (after 2 y) (one z))", [2], END, [(2, (("y", ()), ("z", ()), "end"))])
        self.plays("(then (after 2 y) (+ (one z) (after 2 x)))", [2], ((2, ("over", "on")), (), (0,)), [(2, (("y", ()), ("z", ())))])
        self.plays("(then (after 2 y) (after 2 z))", [3], ((2, "on"), (), (1,)), [(2, (("y", ()),))])
        self.plays("(then (after 2 y) (after 2 z))", [4], END, [(2, (("y", ()),)), (4, (("z", ()), "end"))])
        self.plays("(then (one y) (one z))", [], END, [(-1, (("y", ()), ("z", ()), "end"))])
        self.plays("(then (one y) (after 2 z))", [], ((2, "on"), (), (0,)), [(-1, (("y", ()),))])
        self.plays("(then (until s t) (first 1 s))", [e("t a"), e("s a", 7)], END, [(0, (("a", (7,)), "end"))])

    def test_what_is_begun_late(self):
        self.plays("(then (first 1 s) (pick 0 (pairs s)))", [e("s a", 1), e("s a", 2), e("s a", 3)], ((2, ((1, "on"),)), (3,), ()),
                   [(0, (("a", (1,)),)), (0, (("a", (2,)),))])
        self.plays("(then (first 1 s) (quiet 3 s))", [e("s a", 1), 2, e("s b", 2), 1], ((2, ("b", "on")), (2,), (1,)), [(0, (("a", (1,)),))])


class Else(Plays):
    def test_no_output_for_so_long(self):
        self.plays("(else 3 s t)", [2], ((1, "on"), (), (2,)), [])
        self.plays("(else 3 s t)", [3], ((2, "on"), (), ()), [])
        self.plays("(else 3 s t)", [2, e("s a", 7)], ((1, "on"), (), (0,)), [(2, (("a", (7,)),))])
        self.plays("(else 3 s t)", [2, e("s a", 7), 2, e("t b", 8)], ((1, "on"), (), (2,)), [(2, (("a", (7,)),))])
        self.plays("(else 3 s t)", [2, e("s a", 7), 3, e("s a", 7), e("t b", 8)], ((2, "on"), (), ()), [(2, (("a", (7,)),)), (5, (("b", (8,)),))])

    def test_the_list_of_the_moment_is_the_begin_list_alone(self):
        self.plays("(else 3 (never 0) (one z))", [3], END, [(3, (("z", ()), "end"))])
        self.plays("(else 3 (after 3 y) (one z))", [3], END, [(3, (("z", ()), "end"))])
        self.plays("(else 3 (every 3 y) (+ (one z) (every 2 x)))", [4], ((2, ("over", "on")), (), (1,)), [(3, (("z", ()),))])
        self.plays("(else 3 (every 2 y) (one z))", [7], ((1, "on"), (), (1, 1)), [(2, (("y", ()),)), (4, (("y", ()),)), (6, (("y", ()),))])

    def test_ends(self):
        self.plays("(else 3 (first 1 s) t)", [1, e("s a", 7)], END, [(1, (("a", (7,)), "end"))])
        self.plays("(else 3 (until s t) t)", [1, e("t a", 7)], END, [(1, ("end",))])
        self.plays("(else 3 s (first 1 t))", [4, e("t b", 8)], END, [(4, (("b", (8,)), "end"))])
        self.plays("(else 3 (one y) (one z))", [], END, [(-1, (("y", ()), "end"))])

    def test_at_the_begin(self):
        self.plays("(else 3 (+ (one y) (never 0)) (one z))", [2], ((1, ("over", "on")), (), (2,)), [(-1, (("y", ()),))])
        self.plays("(else 3 (else 2 (never 0) (after 2 y)) (one z))", [2], ((1, (2, "on")), (), (2, 0)), [])
        self.plays("(else 3 (else 2 (never 0) (after 2 y)) (one z))", [3], END, [(3, (("z", ()), "end"))])
