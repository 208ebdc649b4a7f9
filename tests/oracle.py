"""A second reading of the document: pipelines as objects that change, with times instead of readings.

It shares nothing with the package, so that the tests can compare both over many pipelines and tapes. Each part has
`start(now, it)` and `hear(now, event)`, which return a list with the end in it, `dues()`, the times at which its
clocks are due, and `shape()`, `values()` and `clocks()`, as in the states of the document (clocks as pairs of the
number and the time at which the clock is due).
"""


def made(tree):
    return PARTS[tree[0]](tree)


def split(told):
    """The outputs of a list, and whether the end is in it."""
    return [item for item in told if item != "end"], "end" in told


class Part:
    def __init__(self, tree):
        self.tree = tree
        self.over = False
        self.under = []

    def start(self, now, it):
        raise NotImplementedError

    def hear(self, now, event):
        raise NotImplementedError

    def end(self, told):
        self.over = True
        return told + ["end"]

    def begin_part(self, tree, now, it):
        part = made(tree)
        return part, part.start(now, it)

    def running(self):
        """The parts under this one that are not over, from left to right."""
        return [part for part in self.under if not part.over]

    def own_values(self):
        return []

    def own_clocks(self):
        return []

    def own_shape(self):
        return ()

    def shape(self):
        if self.over:
            return "over"
        return self.own_shape() + tuple(part.shape() for part in self.under)

    def values(self):
        if self.over:
            return []
        return self.own_values() + [value for part in self.under for value in part.values()]

    def clocks(self):
        if self.over:
            return []
        return self.own_clocks() + [clock for part in self.under for clock in part.clocks()]


class Leaf(Part):
    def start(self, now, it):
        return []

    def hear(self, now, event):
        return []

    def shape(self):
        return "over" if self.over else "on"


class Source(Leaf):
    def hear(self, now, event):
        if event is not None and event[0] == self.tree[1]:
            return [(event[1], (event[2],))]
        return []


class One(Leaf):
    def start(self, now, it):
        return self.end([(self.tree[1], ())])


class It(Leaf):
    def start(self, now, it):
        return self.end([it])


class Told(Leaf):
    """Tells what the pipeline beside a monitor has told; `Beside` says what this is ahead of each cause."""

    heard = []

    def hear(self, now, event):
        return list(Told.heard)


class Timer(Leaf):
    def start(self, now, it):
        self.due = now + self.tree[1]
        return []

    def hear(self, now, event):
        if event is not None or now != self.due:
            return []
        told = [(self.tree[2], ())]
        if self.tree[0] == "after":
            return self.end(told)
        self.due = now + self.tree[1]
        return told

    def own_clocks(self):
        return [(self.tree[1], self.due)]


class Single(Part):
    """An operator over one part that is over when the part is; `take` gives what it tells of an output."""

    def start(self, now, it):
        part, told = self.begin_part(self.tree[-1], now, it)
        self.under = [part]
        return self.after(now, told, [])

    def hear(self, now, event):
        if self.over:
            return []
        before = self.go_off(now) if event is None else []
        return self.after(now, self.under[0].hear(now, event), before)

    def go_off(self, now):
        return []

    def after(self, now, told, before):
        outputs, ended = split(told)
        mine = list(before)
        for output in outputs:
            mine += self.take(now, output)
        return self.end(mine) if ended else mine


class Only(Single):
    def take(self, now, output):
        return [output] if output[0] in self.tree[1] else []


class Pick(Single):
    def take(self, now, output):
        return [(output[0], tuple(output[1][place] for place in self.tree[1]))]


class Fold(Single):
    state = 0

    def take(self, now, output):
        for (state, letter), (after, other) in self.tree[1]:
            if (state, letter) == (self.state, output[0]):
                self.state = after
                return [(other, output[1])] if other else []
        return []

    def own_shape(self):
        return (self.state,)


class First(Single):
    def __init__(self, tree):
        Single.__init__(self, tree)
        self.left = tree[1]

    def after(self, now, told, before):
        mine = []
        for item in told:
            mine.append(item)
            if item == "end":
                self.over = True
                return mine
            self.left -= 1
            if self.left == 0:
                return self.end(mine)
        return mine

    def own_shape(self):
        return (self.left,)


class Changes(Single):
    before = None

    def take(self, now, output):
        told = [output] if self.before is None or self.before != output[1] else []
        self.before = output[1]
        return told

    def own_shape(self):
        return (0 if self.before is None else 1,)

    def own_values(self):
        return list(self.before or ())


class Pairs(Changes):
    def take(self, now, output):
        told = [] if self.before is None else [(output[0], self.before + output[1])]
        self.before = output[1]
        return told


class Quiet(Single):
    kept = None

    def go_off(self, now):
        if self.kept is None or self.due != now:
            return []
        told, self.kept = [self.kept], None
        return told

    def after(self, now, told, before):
        outputs, ended = split(told)
        for output in outputs:
            self.kept, self.due = output, now + self.tree[1]
        if ended:
            return self.end(before + ([self.kept] if self.kept is not None else []))
        return before

    def own_shape(self):
        return (None if self.kept is None else self.kept[0],)

    def own_values(self):
        return [] if self.kept is None else list(self.kept[1])

    def own_clocks(self):
        return [] if self.kept is None else [(self.tree[1], self.due)]


class Spaced(Single):
    due = None

    def go_off(self, now):
        if self.due == now:
            self.due = None
        return []

    def take(self, now, output):
        if self.due is not None:
            return []
        self.due = now + self.tree[1]
        return [output]

    def own_shape(self):
        return (0 if self.due is None else 1,)

    def own_clocks(self):
        return [] if self.due is None else [(self.tree[1], self.due)]


class Late(Single):
    def __init__(self, tree):
        Single.__init__(self, tree)
        self.way = []

    def go_off(self, now):
        told = [output for output, due in self.way if due == now]
        self.way = [(output, due) for output, due in self.way if due != now]
        return told

    def after(self, now, told, before):
        for output in split(told)[0]:
            if len(self.way) < self.tree[2]:
                self.way.append((output, now + self.tree[1]))
        return self.end(before) if self.under[0].over and not self.way else before

    def own_shape(self):
        return (tuple(output[0] for output, _ in self.way),)

    def own_values(self):
        return [value for output, _ in self.way for value in output[1]]

    def own_clocks(self):
        return [(self.tree[1], due) for _, due in self.way]


class Again(Single):
    def after(self, now, told, before):
        outputs, ended = split(told)
        if not ended:
            return outputs
        part, more = self.begin_part(self.tree[1], now, None)
        self.under = [part]
        return outputs + more


class Double(Part):
    def start(self, now, it):
        one, told = self.begin_part(self.tree[1], now, it)
        other, others = self.begin_part(self.tree[2], now, it)
        self.under = [one, other]
        return self.after(split(told)[0], split(others)[0])

    def hear(self, now, event):
        if self.over:
            return []
        told = [split(part.hear(now, event))[0] if not part.over else [] for part in self.under]
        return self.after(told[0], told[1])


class Plus(Double):
    def after(self, told, others):
        return self.end(told + others) if not self.running() else told + others


class Both(Double):
    def __init__(self, tree):
        Double.__init__(self, tree)
        self.latest = [None, None]

    def after(self, told, others):
        mine = []
        for at, outputs in enumerate((told, others)):
            for letter, values in outputs:
                self.latest[at] = values
                if None not in self.latest:
                    mine.append((letter, self.latest[0] + self.latest[1]))
        return self.end(mine) if not self.running() else mine

    def own_shape(self):
        return tuple(0 if values is None else 1 for values in self.latest)

    def own_values(self):
        return [value for values in self.latest for value in values or ()]


class At(Double):
    kept = None

    def after(self, told, others):
        for output in told:
            self.kept = output
        mine = []
        for _ in others:
            if self.kept is not None:
                mine.append(self.kept)
                self.kept = None
        return self.end(mine) if self.under[1].over else mine

    def own_shape(self):
        return (None if self.kept is None else self.kept[0],)

    def own_values(self):
        return [] if self.kept is None else list(self.kept[1])


class Until(Double):
    def after(self, told, others):
        return self.end(told) if others or self.under[0].over else told


class Then(Part):
    follows = 1

    def start(self, now, it):
        self.it = it
        part, told = self.begin_part(self.tree[-2], now, it)
        self.under = [part]
        return self.after(now, told)

    def second(self, now):
        self.follows = 2
        part, told = self.begin_part(self.tree[-1], now, self.it)
        self.under = [part]
        if part.over:
            self.over = True
        return told

    def hear(self, now, event):
        if self.over:
            return []
        return self.after(now, self.under[0].hear(now, event))

    def after(self, now, told):
        if "end" not in told:
            return told
        if self.follows == 1:
            return split(told)[0] + self.second(now)
        self.over = True
        return told

    def own_shape(self):
        return (self.follows,)


class Else(Then):
    due = None

    def start(self, now, it):
        self.due = now + self.tree[1]
        return Then.start(self, now, it)

    def hear(self, now, event):
        if event is None and self.follows == 1 and now == self.due and not self.over:
            return self.second(now)
        return Then.hear(self, now, event)

    def after(self, now, told):
        if split(told)[0]:
            self.due = now + self.tree[1]
        if "end" in told:
            self.over = True
        return told

    def own_clocks(self):
        return [(self.tree[1], self.due)] if self.follows == 1 else []


def has_own_it(tree):
    """Whether an ("it",) in the tree belongs to the pattern that the tree is."""
    if tree[0] == "it":
        return True
    parts = [part for part in tree[1:] if isinstance(part, tuple) and part and isinstance(part[0], str)]
    if tree[0] in ("switch", "busy"):
        return has_own_it(tree[1])
    if tree[0] in ("only", "fold", "pick"):
        return has_own_it(tree[2])
    return any(has_own_it(part) for part in parts)


class Switch(Part):
    copy = None
    began = None

    def start(self, now, it):
        part, told = self.begin_part(self.tree[1], now, it)
        self.under = [part]
        return self.finish(self.copies(now, split(told)[0]))

    def hear(self, now, event):
        if self.over:
            return []
        part = self.under[0]
        outputs = [] if part.over else split(part.hear(now, event))[0]
        if self.goes_on(outputs):
            told = split(self.copy.hear(now, event))[0]
            if self.copy.over:
                self.copy = None
            return self.finish(told)
        return self.finish(self.copies(now, outputs))

    def goes_on(self, outputs):
        """Whether the running copy hears this cause."""
        return self.copy is not None and not outputs

    def drops(self):
        return True

    def copies(self, now, outputs):
        mine = []
        for output in outputs:
            if self.copy is None or self.drops():
                self.copy, told = self.begin_part(self.tree[2], now, output)
                self.began = output
                mine += split(told)[0]
                if self.copy.over:
                    self.copy = None
        return mine

    def finish(self, told):
        return self.end(told) if self.copy is None and self.under[0].over else told

    def shape(self):
        if self.over:
            return "over"
        if self.copy is None:
            return (self.under[0].shape(), None)
        letter = self.began[0] if has_own_it(self.tree[2]) else None
        return (self.under[0].shape(), (letter, self.copy.shape()))

    def values(self):
        if self.over:
            return []
        if self.copy is None:
            return self.under[0].values()
        own = list(self.began[1]) if has_own_it(self.tree[2]) else []
        return own + self.under[0].values() + self.copy.values()

    def clocks(self):
        if self.over:
            return []
        return self.under[0].clocks() + ([] if self.copy is None else self.copy.clocks())


class Busy(Switch):
    def goes_on(self, outputs):
        return self.copy is not None

    def drops(self):
        return False


PARTS = {
    "told": Told, "source": Source, "never": Leaf, "one": One, "after": Timer, "every": Timer, "it": It, "only": Only, "pick": Pick,
    "fold": Fold, "first": First, "changes": Changes, "pairs": Pairs, "quiet": Quiet, "spaced": Spaced, "late": Late,
    "again": Again, "+": Plus, "&": Both, "at": At, "until": Until, "then": Then, "else": Else, "switch": Switch, "busy": Busy,
}


class Machine:
    """A pipeline that runs; `told` has the stamps and lists so far."""

    def __init__(self, tree):
        self.part = made(tree)
        self.now = 0
        self.place = 0
        self.told = []
        self.causes = 0
        self.note((0, -1), self.part.start(0, None))

    def note(self, stamp, told):
        self.causes += 1
        if told:
            self.told.append((stamp, tuple(told)))
        return tuple(told)

    def next_due(self):
        return min([due for _, due in self.part.clocks()], default=None)

    def wait_until(self, time):
        while self.next_due() is not None and self.next_due() <= time:
            self.now = self.next_due()
            self.note((self.now, 0), self.part.hear(self.now, None))
            self.place = 0
        if time > self.now:
            self.now, self.place = time, 0

    def push(self, source, letter, value):
        self.place += 1
        told = [] if self.part.over else self.part.hear(self.now, (source, letter, value))
        return self.note((self.now, self.place), told)

    def state(self):
        readings = tuple(d - (due - self.now) for d, due in self.part.clocks())
        return self.part.shape(), tuple(self.part.values()), readings

    def run(self, tape):
        for time, source, letter, value in tape.events:
            self.wait_until(time)
            self.push(source, letter, value)
        self.wait_until(tape.last)
        return tuple(self.told)


class Beside:
    """A pipeline and a monitor, or another pipeline, that run side by side; `causes` has the stamps and both lists."""

    def __init__(self, tree, other):
        self.part, self.other = made(tree), made(other)
        self.now = self.place = 0
        self.early = tuple(self.other.start(0, None))
        told = tuple(self.part.start(0, None))
        Told.heard = split(told)[0]
        later = [] if self.other.over else self.other.hear(0, ("", "", 0))
        self.begins = told, tuple(later)
        self.causes = [((0, -1), told, self.early + tuple(later))]

    def hear(self, stamp, event):
        told = [] if self.part.over else self.part.hear(self.now, event)
        Told.heard = split(told)[0]
        others = [] if self.other.over else self.other.hear(self.now, event)
        self.causes.append((stamp, tuple(told), tuple(others)))

    def next_due(self):
        return min([due for _, due in self.part.clocks() + self.other.clocks()], default=None)

    def wait_until(self, time):
        while self.next_due() is not None and self.next_due() <= time:
            self.now, self.place = self.next_due(), 0
            self.hear((self.now, 0), None)
        if time > self.now:
            self.now, self.place = time, 0

    def push(self, source, letter, value):
        self.place += 1
        self.hear((self.now, self.place), (source, letter, value))

    def run(self, tape):
        for time, source, letter, value in tape.events:
            self.wait_until(time)
            self.push(source, letter, value)
        self.wait_until(tape.last)
        return self.causes

    def states(self):
        """The states of both."""
        return tuple(self.state_of(part) for part in (self.part, self.other))

    def state_of(self, part):
        readings = tuple(d - (due - self.now) for d, due in part.clocks())
        return part.shape(), tuple(part.values()), readings

    def observed(self):
        """The stamps and lists of the causes at which the other one tells something, the begin of a monitor apart."""
        pairs = [((0, -2), self.early), ((0, -1), self.begins[1])] + [(stamp, told) for stamp, _, told in self.causes[1:]]
        return tuple(pair for pair in pairs if pair[1])
