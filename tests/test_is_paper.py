"""Papers that are judged: those of others, and those that are spoilt at any place, beside a plain check."""

import unittest

from pushalike.errors import TooMany
from pushalike.joint.bounds import Bounds
from pushalike.joint.monitors import Monitor, Watch
from pushalike.joint.papers import find_paper, is_paper
from pushalike.joint.stands import Pair
from pushalike.tree.texts import read_pipeline
from tests.chance import Chance
from tests.plain import judge
from tests.samples import junk

SMALL = {"s": ("a",)}
BOTH = {"s": ("a", "b"), "t": ("a",)}


def pair_of(one, other, layout=None):
    return Pair(read_pipeline(one), read_pipeline(other), layout or BOTH)


def cut(chance, stand):
    """The stand with narrower or wider rows, perhaps none of a stand."""
    rows = [list(row) for row in stand[3]]
    i, j = chance.random.randrange(len(rows)), chance.random.randrange(len(rows))
    rows[i][j] += chance.one_of([-1, 1, -1, 2])
    rows = tuple(tuple(row) for row in rows)
    try:
        rows = Bounds(rows).rows if chance.random.random() < 0.8 else rows
    except ValueError:
        pass
    return stand[:3] + (rows,)


def spoilt_stands(chance, stands, more):
    """The stands with one of them left out, doubled, changed, or in another place, or one of `more` added."""
    at = chance.random.randrange(len(stands) + 1)
    kind = chance.random.randrange(7)
    if kind == 0 or not stands:
        return stands[:at] + (chance.one_of(more),) + stands[at:] if more else ((),)
    at = chance.random.randrange(len(stands))
    if kind == 1:
        return stands[:at] + stands[at + 1:]
    if kind == 2:
        return stands[:at] + stands[at:at + 1] + stands[at:]
    if kind == 3:
        return tuple(chance.random.sample(stands, len(stands)))
    if kind == 4:
        return stands[:at] + (cut(chance, stands[at]),) + stands[at:]
    if kind == 5:
        return stands[at:]
    return stands[:at] + (cut(chance, stands[at]),) + stands[at + 1:]


def spoilt_events(chance, pair, events, last):
    """The events with one of them left out, added or changed, or another last time."""
    kind = chance.random.randrange(8)
    rows = [list(event) for event in events]
    if kind == 0 or not rows:
        return events, last + chance.one_of([-1, 1, 1, 2, 7])
    at = chance.random.randrange(len(rows))
    if kind == 1:
        del rows[at]
    elif kind == 2:
        rows.insert(at, list(chance.one_of(rows)))
    elif kind == 3:
        rows[at][3] = chance.one_of([0, 1, 2, 5, -7])
    elif kind == 4:
        rows[at][0] += chance.one_of([-1, 1, 2])
    elif kind == 5:
        source = chance.one_of(pair.layout)
        rows[at][1:3] = source, chance.one_of(pair.layout[source])
    elif kind == 6:
        shift = chance.random.randint(1, 9)
        rows = [[row[0] + shift] + row[1:] for row in rows]
        last += chance.one_of([0, shift, shift])
    else:
        rows = [row[:3] + [row[3] + 40] for row in rows]
    return tuple(tuple(row) for row in rows), last


def spoilt(chance, pair, paper):
    if paper[0] == "list":
        return "list", spoilt_stands(chance, paper[1], paper[1])
    _, events, last, rounds = paper
    if chance.random.random() < 0.5:
        events, last = spoilt_events(chance, pair, events, last)
        if chance.random.random() < 0.2:
            rounds = rounds[:len(events)]
    elif rounds and chance.random.random() < 0.8:
        at = chance.random.randrange(len(rounds))
        more = [stand for stands in rounds for stand in stands]
        rounds = rounds[:at] + (spoilt_stands(chance, rounds[at], more),) + rounds[at + 1:]
    else:
        rounds = chance.one_of([rounds[1:], rounds[:-1], rounds + rounds[-1:], rounds + ((),), ((),) + rounds, rounds[::-1]])
    return "row", events, last, rounds


class Spoilt(unittest.TestCase):
    def judged(self, pair, paper, start, counts):
        right = judge(pair, paper, start)
        self.assertIs(is_paper(pair, paper, start=start), right, (pair.left.tree, pair.right.tree, paper, start))
        counts[paper[0], right] = counts.get((paper[0], right), 0) + 1

    def test_pairs(self):
        counts = {}
        for seed in range(220):
            chance = Chance(seed)
            pair = Pair(*chance.near_pair(5), BOTH)
            try:
                paper = find_paper(pair, limit=25)
            except TooMany:
                continue
            for _ in range(12):
                other = spoilt(chance, pair, paper)
                self.judged(pair, other, None, counts)
                if chance.random.random() < 0.3:
                    self.judged(pair, spoilt(chance, pair, other), None, counts)
        self.assertEqual(sorted(counts), [("list", False), ("list", True), ("row", False), ("row", True)])
        self.assertGreater(min(counts.values()), 70, counts)

    def test_watches(self):
        counts = {}
        for seed in range(160):
            chance = Chance(seed)
            pipeline = chance.pipeline(4)
            watch = Watch(pipeline, chance.monitor(pipeline.width, 5), {"s": ("a", "b"), "t": ("a", "c")})
            try:
                paper = find_paper(watch, limit=25)
            except TooMany:
                continue
            self.judged(watch, paper, None, counts)
            for _ in range(8):
                self.judged(watch, spoilt(chance, watch, paper), None, counts)
        self.assertGreater(min(counts.values()), 40, counts)

    def test_starts(self):
        counts = {}
        for seed in range(150):
            chance = Chance(seed)
            pair = Pair(*chance.near_pair(4), BOTH)
            stand = pair.begin()[0]
            for _ in range(4):
                stand = pair.follow(stand, chance.one_of(pair.ways(stand)))[0]
            start = self.start_of(pair, stand)
            if start is None:
                continue
            try:
                paper = find_paper(pair, start=start, limit=25)
            except TooMany:
                continue
            self.judged(pair, paper, start, counts)
            for _ in range(8):
                self.judged(pair, spoilt(chance, pair, paper), start, counts)
        self.assertGreater(min(counts.values()), 30, counts)

    def start_of(self, pair, stand):
        readings = tuple(-most for most in stand[3][0][1:])
        for cut_values in range(len(stand[2]) + 1):
            for at in range(len(readings) + 1):
                start = (stand[0], stand[2][:cut_values], readings[:at]), (stand[1], stand[2][cut_values:], readings[at:])
                try:
                    pair.stand(*start)
                    return start
                except ValueError:
                    pass
        return None


class Papers(unittest.TestCase):
    def test_list_papers_of_others(self):
        pair = pair_of("(spaced 3 s)", "(spaced 2 (spaced 3 s))")
        stands = find_paper(pair)[1]
        self.assertGreater(len(stands), 2)
        for at, stand in enumerate(stands):
            self.assertTrue(is_paper(pair, ("list", stands[at:] + stands[:at])))
            self.assertTrue(is_paper(pair, ("list", (stand,) + stands[:at] + stands[at + 1:])))
            self.assertFalse(is_paper(pair, ("list", stands[:at] + stands[at + 1:])))
            self.assertFalse(is_paper(pair, ("list", stands + (stand,))))
        # A stand that has more pairs of states takes the place of those that are within it.
        wide = Pair(read_pipeline("(quiet 4 s)"), read_pipeline("(quiet 4 s)"), SMALL)
        paper = find_paper(wide)
        more = (("b", "on"), ("b", "on"), (0, 0), ((0, 0, 0), (3, 0, 0), (3, 0, 0)))
        self.assertTrue(is_paper(wide, ("list", paper[1] + (more,))))
        loose = (("b", "on"), ("b", "on"), (0, 0), ((0, 0, 0), (3, 0, 1), (3, 1, 0)))
        self.assertTrue(wide.is_stand(loose))
        self.assertFalse(is_paper(wide, ("list", paper[1] + (loose,))))
        # Stands that are not reached need to be closed too, and need not have what waiting leads to.
        early = (("a", "on"), ("a", "on"), (0, 0), ((0, 0, 0), (0, 0, 0), (0, 0, 0)))
        self.assertTrue(is_paper(wide, ("list", paper[1] + (early,))))
        self.assertTrue(is_paper(wide, ("list", (early,) + paper[1])))
        self.assertFalse(is_paper(wide, ("list", tuple(stand for stand in paper[1] if stand[0][0] is None) + (early,))))
        self.assertFalse(is_paper(wide, ("list", ())))

    def test_events_that_nobody_hears(self):
        early = (("b", "on"), ("b", "on"), (0, 0), ((0, 0, 0), (0, 0, 0), (0, 0, 0)))
        late = (("b", "on"), ("b", "on"), (0, 0), ((0, 0, 0), (3, 0, 0), (3, 0, 0)))
        for layout, right in ((SMALL, True), ({"s": ("a",), "u": ("a", "c")}, False), ({"r": ("b",), "s": ("a",)}, False)):
            pair = Pair(read_pipeline("(quiet 4 s)"), read_pipeline("(quiet 4 s)"), layout)
            stands = find_paper(pair)[1]
            # Time passes before an event that nobody hears, and then the stand has what waiting leads to.
            self.assertIs(is_paper(pair, ("list", stands + (early,))), right)
            self.assertTrue(is_paper(pair, ("list", stands + (early, late))))
            self.assertIs(judge(pair, ("list", stands + (early,))), right)

    def test_stands_within_larger_ones(self):
        pair = pair_of("(spaced 5 s)", "(spaced 5 s)", SMALL)
        zero = ((0, "on"), (0, "on"), (), ((0,),))
        running = ((1, "on"), (1, "on"), (), ((0, 0, 0), (4, 0, 0), (4, 0, 0)))
        self.assertEqual(find_paper(pair)[1], (zero, running))
        # The clock of the second one may be apart from that of the first one only where nothing can be told.
        apart = ((1, "on"), (1, "on"), (), ((0, 0, 0), (4, 0, 1), (4, 1, 0)))
        self.assertTrue(pair.is_stand(apart))
        self.assertFalse(is_paper(pair, ("list", (zero, apart))))
        never = pair_of("(spaced 5 (never 1))", "(spaced 5 (never 1))", SMALL)
        states = [((i, ("on")), (j, ("on"))) for i in (0, 1) for j in (0, 1)]
        full = tuple((one, other, (), Bounds(tuple((9,) * (1 + one[0] + other[0]) for _ in range(1 + one[0] + other[0]))).rows) for one, other in states)
        full = tuple(stand[:3] + (self.below(stand[3], 4),) for stand in full)
        self.assertTrue(all(never.is_stand(stand) for stand in full))
        self.assertTrue(is_paper(never, ("list", full)))
        for at in range(1, len(full)):
            self.assertEqual(is_paper(never, ("list", full[:at] + full[at + 1:])), at == 3)

    def below(self, rows, top):
        bounds = Bounds(rows)
        for at in range(1, len(rows)):
            bounds = bounds.cut(at, 0, top).cut(0, at, 0)
        return bounds.rows

    def test_row_papers_with_other_times_and_values(self):
        pair = pair_of("(quiet 2 s)", "(late 2 1 s)", SMALL)
        _, events, last, rounds = find_paper(pair)
        self.assertEqual((events, last), (((0, "s", "a", 0), (1, "s", "a", 0)), 2))
        for events, last, right in (
            (((0, "s", "a", 0), (1, "s", "a", 0)), 2, True), (((5, "s", "a", 8), (6, "s", "a", 8)), 7, True), (((5, "s", "a", 8), (6, "s", "a", -8)), 7, True),
            (((5, "s", "a", 8), (5, "s", "a", 9)), 7, True), (((5, "s", "a", 8), (5, "s", "a", 8)), 7, False), (((5, "s", "a", 8), (6, "s", "a", 8)), 8, False),
            (((5, "s", "a", 8), (6, "s", "a", 8)), 6, False), (((5, "s", "a", 8), (7, "s", "a", 8)), 9, False), (((5, "s", "a", 8),), 7, False),
            (((5, "s", "b", 8), (6, "s", "a", 8)), 7, False), (((5, "t", "a", 8), (6, "s", "a", 8)), 7, False), (((5, "s", "a", True), (6, "s", "a", 8)), 7, False),
            ([(5, "s", "a", 8), (6, "s", "a", 8)], 7, False), (((6, "s", "a", 8), (5, "s", "a", 8)), 7, False), (((5, "s", "a", 8), (6, "s", "a", 8)), None, False),
            (((5, "s", "a", 8), (6, "s", "a", 8)), True, False), (((5, "s", "a", 8), (6, "s", "a", 8), (7, "s", "a", 8)), 7, False), ((), 7, False), ((), 0, False),
        ):
            self.assertIs(is_paper(pair, ("row", events, last, rounds)), right, (events, last))
        self.assertFalse(is_paper(pair, ("row", ((5, "s", "a", 8), (6, "s", "a", 8), (7, "s", "a", 8)), 7, rounds + ((),))))

    def test_rounds(self):
        pair = pair_of("(first 2 s)", "(first 3 s)", SMALL)
        _, events, last, rounds = find_paper(pair)
        self.assertEqual((len(events), [len(stands) for stands in rounds]), (2, [1, 1]))
        begin, one = rounds[0][0], rounds[1][0]
        for other, right in (
            (rounds, True), (((begin,), (one, begin)), True), (((begin, begin), (one, one)), True), (((begin, one), (one,)), False), (((begin, one), ()), False),
            (((one,), (begin,)), False), (((begin,), ()), False), (((), (begin, one)), False), ((begin, one), False), (([begin], (one,)), False),
            ([(begin,), (one,)], False), (rounds[:1], False), (rounds + ((),), False), ((), False), (((begin,), (one, None)), False),
        ):
            self.assertIs(is_paper(pair, ("row", events, last, other)), right, other)
        # What a stand of the last round leads to by events does not matter.
        over = ("over", (1, "on"), (), ((0,),))
        self.assertTrue(is_paper(pair, ("row", events, last, ((begin,), (one, over)))))
        self.assertFalse(is_paper(pair, ("row", events, last, ((begin, over), (one,)))))

    def test_moments_of_rounds(self):
        pair = pair_of("(+ s (pick 0 (& (every 2 z) (never 1))))", "(+ (first 1 s) (pick 0 (& (every 2 z) (never 1))))", SMALL)
        _, events, last, rounds = find_paper(pair)
        self.assertEqual((len(events), [len(stands) for stands in rounds]), (2, [2, 2]))
        for at, stands in enumerate(rounds):
            for index in range(len(stands)):
                other = rounds[:at] + (stands[:index] + stands[index + 1:],) + rounds[at + 1:]
                self.assertIs(is_paper(pair, ("row", events, last, other)), judge(pair, ("row", events, last, other)))

    def test_the_begin(self):
        pair = pair_of("(+ (one z) (never 0))", "(one z)")
        self.assertTrue(is_paper(pair, ("row", (), 0, ())))
        self.assertFalse(is_paper(pair, ("row", (), 1, ())))
        self.assertFalse(is_paper(pair, ("row", ((0, "s", "a", 0),), 0, ((pair.begin()[0],),))))
        self.assertFalse(is_paper(pair, ("list", (pair.begin()[0],))))
        pair = pair_of("(one z)", "(one z)")
        self.assertTrue(is_paper(pair, ("list", (pair.begin()[0],))))
        self.assertFalse(is_paper(pair, ("row", (), 0, ())))

    def test_a_thousand_causes_and_one_more(self):
        pair = pair_of("(+ s (only a (pick 0 (& (never 1) (every 1 z)))))", "(+ (never 1) (never 1))", SMALL)
        paper = find_paper(pair)
        events, rounds = paper[1], paper[3]
        self.assertEqual(len(events), 1)
        for time, right in ((0, True), (1, True), (998, True), (999, False), (10 ** 50, False)):
            self.assertIs(is_paper(pair, ("row", ((time, "s", "a", 3),), time, rounds)), right, time)

    def test_a_thousand_causes_from_a_start_on(self):
        pair = pair_of("(+ (pick - s) (only b (every 1 z)))", "(+ (pick - (never 1)) (never 0))", SMALL)
        start = ((("on",), ("on",)), (), (0,)), ((("on",), "on"), (), ())
        paper = find_paper(pair, start=start)
        self.assertEqual(len(paper[1]), 1)
        for time, right in ((0, True), (998, True), (999, True), (1000, False)):
            self.assertIs(is_paper(pair, ("row", ((time, "s", "a", 3),), time, paper[3]), start=start), right, time)
            self.assertIs(is_paper(pair, ("row", ((time, "s", "a", 3),), time, find_paper(pair)[3])), right and time < 999, time)

    def test_other_values(self):
        pair = pair_of("(first 1 s)", "(until s s)", SMALL)
        paper = find_paper(pair)
        for value in junk():
            for other in (value, ("list", value), (value, paper[1]), ("list", paper[1] + (value,)), ("list", (value,)), paper + (value,),
                          ("row", value, 0, ()), ("row", (), value, ()), ("row", (), 0, value), ("row", ((0, "s", "a", 0),), 0, (value,)),
                          ("list", [*paper[1]]), ("row",), ("row", value), ("row", (), 0), ("row", (), 0, (), value), ("list",), ("list", paper[1], value), list(paper), ("list", (value,) + paper[1]), ("row", ((0, "s", "a", 0),), 0, ((value,),))):
                self.assertIs(is_paper(pair, other), False)
        pair = pair_of("(after 3 z)", "(after 4 z)")
        self.assertTrue(is_paper(pair, ("row", (), 3, ())))
        for value in junk():
            for other in (("row", value, 3, ()), ("row", (), value, ()), ("row", (), 3, value), (value, (), 3, ())):
                self.assertIs(is_paper(pair, other), other == ("row", (), 3, ()) and not isinstance(value, bool))

    def test_true_and_false_are_no_integers(self):
        pair = pair_of("(changes s)", "(changes s)", SMALL)
        stands = find_paper(pair)[1]
        self.assertTrue(is_paper(pair, ("list", stands)))
        for at, stand in enumerate(stands):
            for wrong in ((stand[0], stand[1], stand[2], ((False,),)), ((bool(stand[0][0]),) + stand[0][1:],) + stand[1:]):
                self.assertEqual(wrong, stand)
                self.assertIs(is_paper(pair, ("list", stands[:at] + (wrong,) + stands[at + 1:])), False)

    def test_papers_of_other_pairs(self):
        one, other = pair_of("(first 1 s)", "(until s s)", SMALL), pair_of("(until s s)", "(first 1 s)", SMALL)
        self.assertFalse(is_paper(other, find_paper(one)))
        layout = {"s": ("a",), "t": ("a",)}
        self.assertTrue(is_paper(pair_of("(first 1 s)", "(until s s)", layout), find_paper(one)))
        one = pair_of("s", "(only a s)", SMALL)
        self.assertTrue(is_paper(one, find_paper(one)))
        self.assertFalse(is_paper(pair_of("s", "(only a s)"), find_paper(one)))

    def test_a_watch(self):
        watch = Watch(read_pipeline("s"), Monitor.of(("first", 1, ("only", ("b",), ("told", 1)))), BOTH)
        paper = find_paper(watch)
        self.assertEqual(paper[:3], ("row", ((0, "s", "b", 0),), 0))
        self.assertTrue(is_paper(watch, paper))
        self.assertFalse(is_paper(watch, ("row", ((0, "s", "a", 0),), 0, paper[3])))
        self.assertFalse(is_paper(watch, ("list", paper[3][0])))
        # An end of the monitor does not matter, and neither does what it tells beside others.
        watch = Watch(read_pipeline("s"), Monitor.of(("until", ("never", 0), ("told", 1))), BOTH)
        paper = find_paper(watch)
        self.assertEqual(paper[0], "list")
        self.assertTrue(is_paper(watch, paper))


if __name__ == "__main__":
    unittest.main()
