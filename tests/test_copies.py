"""What switch and busy do, each with its states."""

from tests.scripts import Plays, e

END = ("over", (), ())


class Switch(Plays):
    def test_the_newest_copy_runs(self):
        text = "(switch s (until t (after 5 z)))"
        self.plays(text, [], (("on", None), (), ()), [])
        self.plays(text, [e("t b", 8)], (("on", None), (), ()), [])
        self.plays(text, [e("s a", 7), 2], (("on", (None, ("on", "on"))), (), (2,)), [])
        self.plays(text, [e("s a", 7), 2, e("t b", 8)], (("on", (None, ("on", "on"))), (), (2,)), [(2, (("b", (8,)),))])
        self.plays(text, [e("s a", 7), 2, e("s b", 8), 3], (("on", (None, ("on", "on"))), (), (3,)), [])
        self.plays(text, [e("s a", 7), 5], (("on", None), (), ()), [])
        self.plays(text, [e("s a", 7), 5, e("t b", 8)], (("on", None), (), ()), [])

    def test_it_is_told_at_its_begin(self):
        self.plays("(switch s it)", [e("s a", 7), e("s b", 8)], (("on", None), (), ()), [(0, (("a", (7,)),)), (0, (("b", (8,)),))])
        self.plays("(switch s (+ it it))", [e("s a", 7)], (("on", None), (), ()), [(0, (("a", (7,)), ("a", (7,))))])
        self.plays("(switch s (+ it t))", [e("s a", 7)], (("on", ("a", ("over", "on"))), (7,), ()), [(0, (("a", (7,)),))])
        self.plays("(switch (pairs s) (pick 1 it))", [e("s a", 7), e("s b", 8)], (((1, "on"), None), (8,), ()), [(0, (("b", (8,)),))])

    def test_it_is_told_later(self):
        text = "(switch s (then (pick 0 (until t (first 1 t))) it))"
        self.plays(text, [e("s a", 7)], (("on", ("a", (1, (("on", (1, "on")),)))), (7,), ()), [])
        self.plays(text, [e("s a", 7), 3, e("t b", 8)], (("on", None), (), ()), [(3, (("b", (8,)), ("a", (7,))))])
        self.plays(text, [e("s a", 7), e("s c", 9), e("t b", 8)], (("on", None), (), ()), [(0, (("b", (8,)), ("c", (9,))))])
        self.plays("(switch s (else 2 (never 1) it))", [e("s a", 7), 1], (("on", ("a", (1, "on"))), (7,), (1,)), [])
        self.plays("(switch s (else 2 (never 1) it))", [e("s a", 7), 1, e("s b", 8), 2], (("on", None), (), ()), [(3, (("b", (8,)),))])

    def test_its_letter_and_values_stay_when_it_was_told(self):
        self.plays("(switch s (+ it (only b t)))", [e("s a", 7), e("t b", 8), 4], (("on", ("a", ("over", ("on",)))), (7,), ()),
                   [(0, (("a", (7,)),)), (0, (("b", (8,)),))])

    def test_values_and_clocks_in_their_order(self):
        self.plays("(switch (quiet 3 s) (late 5 2 (+ it t)))", [e("s a", 7), 3, e("t b", 8), 1, e("s c", 9), 1],
                   ((("c", "on"), ("a", (("a", "b"), ("over", "on")))), (7, 9, 7, 8), (1, 2, 2)), [])
        self.plays("(+ (switch (changes s) (late 5 2 (+ it t))) (quiet 9 s))", [e("s a", 7), 1, e("t b", 8), 2],
                   ((((1, "on"), ("a", (("a", "b"), ("over", "on")))), ("a", "on")), (7, 7, 7, 8, 7), (3, 2, 3)), [])

    def test_several_outputs_in_one_list(self):
        two = "(+ s (fold 0a0b,0c0d s))"
        self.plays(f"(switch {two} it)", [e("s a", 7)], ((("on", (0, "on")), None), (), ()), [(0, (("a", (7,)), ("b", (7,))))])
        self.plays(f"(switch {two} (+ it t))", [e("s a", 7), e("t c", 9)], ((("on", (0, "on")), ("b", ("over", "on"))), (7,), ()),
                   [(0, (("a", (7,)), ("b", (7,)))), (0, (("c", (9,)),))])
        self.plays(f"(switch {two} (quiet 3 (+ it t)))", [e("s a", 7), 3], ((("on", (0, "on")), ("b", (None, ("over", "on")))), (7,), ()), [(3, (("b", (7,)),))])

    def test_the_last_copy_decides_whether_one_is_running(self):
        # A copy that was begun with the letter b ends at its begin; another one goes on.
        pattern = "(until (+ it t) (only b it))"
        self.plays(f"(switch (+ s (fold 0a0b s)) {pattern})", [e("s a", 7)], ((("on", (0, "on")), None), (), ()), [(0, (("a", (7,)), ("b", (7,))))])
        self.plays(f"(switch (+ (fold 0a0b s) s) {pattern})", [e("s a", 7)], ((((0, "on"), "on"), ("a", (("over", "on"), "over"))), (7,), ()),
                   [(0, (("b", (7,)), ("a", (7,))))])

    def test_a_copy_does_not_hear_a_cause_at_which_another_is_begun(self):
        self.plays("(switch s s)", [e("s a", 7)], (("on", (None, "on")), (), ()), [])
        self.plays("(switch s s)", [e("s a", 7), e("s b", 8)], (("on", (None, "on")), (), ()), [])
        self.plays("(switch (only a s) s)", [e("s a", 7), e("s b", 8), e("s a", 9)], ((("on",), (None, "on")), (), ()), [(0, (("b", (8,)),))])
        self.plays("(switch (every 2 y) (after 2 z))", [7], (("on", (None, "on")), (), (1, 1)), [])
        self.plays("(switch (every 3 y) (every 2 z))", [7], (("on", (None, "on")), (), (1, 1)), [(5, (("z", ()),))])

    def test_ends(self):
        self.plays("(switch (first 1 s) t)", [e("s a", 7)], (("over", (None, "on")), (), ()), [])
        self.plays("(switch (first 1 s) (+ it t))", [e("s a", 7), e("t b", 8)], (("over", ("a", ("over", "on"))), (7,), ()),
                   [(0, (("a", (7,)),)), (0, (("b", (8,)),))])
        self.plays("(switch (first 1 s) (first 1 t))", [e("s a", 7), e("t b", 8)], END, [(0, (("b", (8,)), "end"))])
        self.plays("(switch (first 1 s) it)", [e("s a", 7)], END, [(0, (("a", (7,)), "end"))])
        self.plays("(switch (until s t) it)", [e("s a", 7), e("t b", 8)], END, [(0, (("a", (7,)),)), (0, ("end",))])
        self.plays("(switch (until s u) (first 1 t))", [e("s a", 7), e("u b"), e("t b", 8)], END, [(0, (("b", (8,)), "end"))])
        self.plays("(switch (first 2 s) (first 1 t))", [e("s a", 7), e("t b", 8)], (((1, "on"), None), (), ()), [(0, (("b", (8,)),))])

    def test_at_the_begin(self):
        self.plays("(switch (one y) it)", [], END, [(-1, (("y", ()), "end"))])
        self.plays("(switch (one y) (+ it (after 2 z)))", [1], (("over", ("y", ("over", "on"))), (), (1,)), [(-1, (("y", ()),))])
        self.plays("(switch (+ (one y) (one x)) (+ it (after 2 z)))", [2], END, [(-1, (("y", ()), ("x", ()))), (2, (("z", ()), "end"))])
        self.plays("(switch (only a (one b)) it)", [], END, [(-1, ("end",))])

    def test_patterns_in_patterns(self):
        # The inner ("it",) before the inner pattern belongs to the outer one.
        text = "(switch s (switch (+ it t) (+ it (never 1))))"
        self.plays(text, [e("s a", 7)], (("on", ("a", (("over", "on"), ("a", ("over", "on"))))), (7, 7), ()), [(0, (("a", (7,)),))])
        self.plays(text, [e("s a", 7), e("t b", 8)], (("on", ("a", (("over", "on"), ("b", ("over", "on"))))), (7, 8), ()),
                   [(0, (("a", (7,)),)), (0, (("b", (8,)),))])
        self.plays("(switch s (switch t (+ it (never 1))))", [e("s a", 7), e("t b", 8)], (("on", (None, ("on", ("b", ("over", "on"))))), (8,), ()),
                   [(0, (("b", (8,)),))])

    def test_again_in_a_pattern(self):
        self.plays("(switch s (again (first 1 t)))", [e("s a", 7), e("t b", 8), e("t c", 9)], (("on", (None, ((1, "on"),))), (), ()),
                   [(0, (("b", (8,)),)), (0, (("c", (9,)),))])


class Busy(Plays):
    def test_outputs_are_lost_while_a_copy_is_running(self):
        text = "(busy s (+ it (quiet 3 t)))"
        self.plays("(busy s (first 1 t))", [e("s a", 7), e("s b", 8), e("t c", 9)], (("on", None), (), ()), [(0, (("c", (9,)),))])
        self.plays(text, [e("s a", 7), e("s b", 8), 1], (("on", ("a", ("over", (None, "on")))), (7,), ()), [(0, (("a", (7,)),))])
        self.plays("(busy s (after 3 z))", [e("s a", 7), 2, e("s a", 7)], (("on", (None, "on")), (), (2,)), [])
        self.plays("(busy s (pick 0 (until (+ it t) (after 3 z))))", [e("s a", 7), 3, e("s b", 8)], (("on", ("b", ((("over", "on"), "on"),))), (8,), (0,)),
                   [(0, (("a", (7,)),)), (3, (("b", (8,)),))])

    def test_a_running_copy_hears_the_cause_after_the_part(self):
        self.plays("(busy s s)", [e("s a", 7), e("s b", 8)], (("on", (None, "on")), (), ()), [(0, (("b", (8,)),))])
        self.plays("(busy (every 3 y) (every 2 z))", [6], (("on", (None, "on")), (), (0, 1)), [(5, (("z", ()),))])

    def test_outputs_are_lost_also_when_the_copy_ends(self):
        self.plays("(busy s (first 1 s))", [e("s a", 7), e("s b", 8)], (("on", None), (), ()), [(0, (("b", (8,)),))])
        self.plays("(busy s (first 1 s))", [e("s a", 7), e("s b", 8), e("s c", 9)], (("on", (None, (1, "on"))), (), ()), [(0, (("b", (8,)),))])
        self.plays("(busy (every 2 y) (after 2 z))", [5], (("on", None), (), (1,)), [(4, (("z", ()),))])

    def test_a_copy_that_is_over_at_its_begin_is_not_running(self):
        self.plays("(busy (+ s s) it)", [e("s a", 7)], ((("on", "on"), None), (), ()), [(0, (("a", (7,)), ("a", (7,))))])
        self.plays("(busy (+ s s) (+ it t))", [e("s a", 7)], ((("on", "on"), ("a", ("over", "on"))), (7,), ()), [(0, (("a", (7,)),))])
        pattern = "(until (+ it t) (only b it))"
        self.plays(f"(busy (+ (fold 0a0b s) s) {pattern})", [e("s a", 7)], ((((0, "on"), "on"), ("a", (("over", "on"), "over"))), (7,), ()),
                   [(0, (("b", (7,)), ("a", (7,))))])

    def test_ends(self):
        self.plays("(busy (first 2 s) (first 1 s))", [e("s a", 7), e("s b", 8)], END, [(0, (("b", (8,)), "end"))])
        self.plays("(busy (first 1 s) (first 1 t))", [e("s a", 7), 3], (("over", (None, (1, "on"))), (), ()), [])
        self.plays("(busy (first 1 s) it)", [e("s a", 7)], END, [(0, (("a", (7,)), "end"))])
        self.plays("(busy (until s t) (until s t))", [e("s a", 7), e("s b", 8), e("t c")], END, [(0, (("b", (8,)),)), (0, ("end",))])
        self.plays("(busy (one y) it)", [], END, [(-1, (("y", ()), "end"))])
        self.plays("(busy (one y) (after 2 z))", [2], END, [(2, (("z", ()), "end"))])


class Over(Plays):
    """Copies over and under other operators."""

    def test_a_dropped_copy_tells_no_end(self):
        self.plays("(switch (first 2 s) (quiet 5 (+ it t)))",
                   [e("s a", 7), 1, e("s b", 8), 5], (("over", ("b", (None, ("over", "on")))), (8,), ()), [(6, (("b", (8,)),))])

    def test_behind_then_and_else(self):
        self.plays("(then (first 1 s) (switch s (+ it t)))", [e("s a", 1), e("s b", 2), e("t c", 3)], ((2, ("on", ("b", ("over", "on")))), (2,), ()),
                   [(0, (("a", (1,)),)), (0, (("b", (2,)),)), (0, (("c", (3,)),))])
        self.plays("(else 2 (never 1) (busy s (late 2 1 it)))", [2, e("s b", 2), e("s c", 3), 2], ((2, ("on", None)), (), ()), [(4, (("b", (2,)),))])

    def test_an_else_in_a_pattern(self):
        text = "(switch s (else 3 t (pick 1 (pairs (+ it s)))))"
        self.plays(text, [e("s a", 7), 2, e("t b", 8), 2], (("on", ("a", (1, "on"))), (7,), (2,)), [(2, (("b", (8,)),))])
        self.plays(text, [e("s a", 7), 3], (("on", ("a", (2, ((1, ("over", "on")),)))), (7, 7), ()), [])
