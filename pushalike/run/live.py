"""Pipelines that are running."""

from pushalike.base.tapes import Tape
from pushalike.base.words import is_event, is_integer
from pushalike.errors import InvalidNumber, InvalidPipeline, InvalidTape, NothingToUndo
from pushalike.run.readings import BEGIN, MAX_CAUSES, news_of, passed
from pushalike.run.steps import at_event, begun
from pushalike.tree.pipelines import Pipeline, plan_of


class Step:
    """Where a step has led a running pipeline; it never changes.

    `box` is the pipeline, `time` the time, `place` the number of its events so far, and `stance` the state.
    `pushed` is the event of the step in a tuple, which is empty for a wait, and `news` are the stamps and lists
    that the step has brought.
    """

    def __init__(self, box, time, place, stance, pushed, news):
        self.box = box
        self.time = time
        self.place = place
        self.stance = stance
        self.pushed = pushed
        self.news = news


class Live:
    """A pipeline that is running."""

    def __init__(self, pipeline):
        if not isinstance(pipeline, Pipeline):
            raise InvalidPipeline("this is no pipeline")
        state, told = begun(plan_of(pipeline))
        self._begin = Step(pipeline, 0, 0, state, (), news_of(BEGIN, told))
        self._steps = []
        self._undone = []

    @property
    def pipeline(self):
        """The pipeline."""
        return self._here().box

    @property
    def now(self):
        """The time."""
        return self._here().time

    @property
    def state(self):
        """The state."""
        return self._here().stance

    @property
    def tape(self):
        """The events so far, up to now."""
        return Tape(tuple([event for step in self._steps for event in step.pushed]), last=self.now)

    @property
    def told(self):
        """The stamps and lists of all causes so far at which something was told."""
        return tuple([pair for step in [self._begin] + self._steps for pair in step.news])

    def __len__(self):
        return len(self._steps)

    def __eq__(self, other):
        return isinstance(other, Live) and self.pipeline == other.pipeline and self.tape == other.tape

    def __str__(self):
        return f"live pipeline of {len(self.pipeline)} parts at {self.now}"

    def __call__(self, source, letter, value):
        return self.push(source, letter, value)

    def push(self, source, letter, value):
        """An event happens now; its list."""
        here = self._here()
        event = (here.time, source, letter, value)
        if not is_event(event):
            raise InvalidTape("there is no such event")
        state, told = at_event(plan_of(here.box), here.stance, (source, letter, value))
        place = here.place + 1
        self._take(Step(here.box, here.time, place, state, (event,), news_of((here.time, place), told)))
        return told

    def wait(self, time):
        """So much time passes; the stamps and lists of the moments on the way that tell something."""
        here = self._here()
        if not is_integer(time) or time < 0 or not is_integer(here.time + time):
            raise InvalidNumber(time)
        end = here.time + time
        state, news, _ = passed(plan_of(here.box), here.stance, here.time, end, MAX_CAUSES)
        self._take(Step(here.box, end, here.place if time == 0 else 0, state, (), news))
        return news

    def undo(self, many=1):
        """Takes back the last steps."""
        check_number(many, len(self._steps))
        for _ in range(many):
            self._undone.append(self._steps.pop())

    def redo(self, many=1):
        """Does again what was taken back last."""
        check_number(many, len(self._undone))
        for _ in range(many):
            self._steps.append(self._undone.pop())

    def trial(self):
        """A block at the end of which all is as it was at its beginning."""
        return Trial(self)

    def tried(self, action):
        """What the action returns for this pipeline, after which all is as it was before."""
        with self.trial() as other:
            return action(other)

    def twin(self):
        """An independent one in the same stand."""
        other = Live(self._begin.box)
        other._steps = list(self._steps)
        other._undone = list(self._undone)
        return other

    def _here(self):
        """The last step, or the begin."""
        return self._steps[-1] if len(self._steps) > 0 else self._begin

    def _take(self, step):
        """A new step, after which nothing can be redone."""
        self._steps.append(step)
        self._undone = []


def take_exchange(live, pipeline, state):
    """A step after which another pipeline is running, in this state; it must have told the same so far."""
    here = live._here()
    live._take(Step(pipeline, here.time, here.place, state, (), ()))


class Trial:
    """A block at the end of which a running pipeline is as it was at its beginning."""

    def __init__(self, live):
        self._live = live
        self._mark = None

    def __enter__(self):
        live = self._live
        # Each block has a mark of its own, as one within another may belong to the same trial.
        self._mark = Mark(list(live._steps), list(live._undone), self._mark)
        return live

    def __exit__(self, kind, value, trace):
        live = self._live
        live._steps = self._mark.taken
        live._undone = self._mark.undone
        self._mark = self._mark.elder


class Mark:
    """The steps of a running pipeline at the beginning of a block, and the mark of the block around it."""

    def __init__(self, taken, undone, elder):
        self.taken = taken
        self.undone = undone
        self.elder = elder


def check_number(many, most):
    """Raises the error for a number of steps of which there are so many at the most."""
    if not is_integer(many) or many < 0:
        raise InvalidNumber(many)
    if many > most:
        raise NothingToUndo(many)
