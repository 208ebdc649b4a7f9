"""A shell: lines with commands, and the texts that they return."""

from pushalike.base.words import is_layout, is_name
from pushalike.errors import (
    InvalidLayout,
    InvalidNumber,
    InvalidOperation,
    InvalidPipeline,
    InvalidTape,
    NothingToUndo,
    ParseError,
    TooMany,
)
from pushalike.joint.papers import find_paper
from pushalike.joint.stands import Pair
from pushalike.run.live import Live
from pushalike.run.states import begin
from pushalike.text.integers import integer_of
from pushalike.tree.texts import read_pipeline, write_pipeline

SHELL_LIMIT = 200
NOTHING = "nothing"
WHAT = "what"
# What stands behind the word of each command but `let`.
COMMANDS = {
    "show": ("name",),
    "names": (),
    "start": ("name",),
    "push": ("word", "word", "integer"),
    "wait": ("integer",),
    "undo": (),
    "redo": (),
    "alike": ("name", "name"),
}
NEEDING = ("push", "wait", "undo", "redo")


class Shell:
    """A shell for a layout, with named pipelines and one that is running."""

    def __init__(self, layout):
        if not is_layout(layout):
            raise InvalidLayout("this is no layout")
        self._layout = {name: layout[name] for name in layout}
        self._named = {}
        self._live = None

    def __call__(self, line):
        return self.run(line)

    def run(self, line):
        """The text that the command of a line returns."""
        command = command_of(line)
        if command is None:
            return WHAT
        if command[0] in NEEDING and self._live is None:
            return "idle"
        if command[0] in ("show", "start", "alike"):
            for name in command[1:]:
                if name not in self._named:
                    return f"unknown {name}"
        text = self._tried(command)
        return NOTHING if text == "" else text

    def _tried(self, command):
        """The text of a command, or the word of its error."""
        try:
            return self._done(command)
        except ParseError as unread:
            return f"text {unread.index}"
        except InvalidPipeline:
            return "pipeline"
        except InvalidTape:
            return "tape"
        except InvalidNumber as wrong:
            return f"number {wrong.value}"
        except NothingToUndo:
            return "undo"
        except TooMany as more:
            return f"many {more.limit}"
        except InvalidOperation:
            return "operation"

    def _done(self, command):
        """The text of a command."""
        word = command[0]
        if word == "let":
            self._named[command[1]] = read_pipeline(command[2])
            return f"let {command[1]}"
        if word == "names":
            return " ".join(sorted(self._named))
        if word == "show":
            return write_pipeline(self._named[command[1]])
        if word == "alike":
            return self._compared(self._named[command[1]], self._named[command[2]])
        if word == "start":
            pipeline = self._named[command[1]]
            self._live = Live(pipeline)
            return list_text(begin(pipeline)[1])
        if word == "push":
            return self._pushed(command[1], command[2], command[3])
        if word == "wait":
            news = self._live.wait(command[1])
            return "\n".join([f"{stamp[0]}: {list_text(told)}" for stamp, told in news])
        if word == "undo":
            self._live.undo()
        else:
            self._live.redo()
        return f"at {self._live.now}"

    def _pushed(self, source, letter, value):
        """The text of what an event makes the running pipeline tell."""
        if letter not in self._layout.get(source, ()):
            raise InvalidTape("there is no such event in the layout")
        return list_text(self._live.push(source, letter, value))

    def _compared(self, one, other):
        """The text of a paper of two pipelines."""
        paper = find_paper(Pair(one, other, self._layout), limit=SHELL_LIMIT)
        if paper[0] == "list":
            return "alike"
        lines = [" ".join([str(item) for item in event]) for event in paper[1]]
        return "\n".join(lines + [f"until {paper[2]}"])


def command_of(line):
    """The word of the command of a line and what stands behind it, or None."""
    if not isinstance(line, str):
        return None
    if line.startswith("let "):
        name, blank, text = line[len("let "):].partition(" ")
        return ("let", name, text) if is_name(name) and blank != "" else None
    words = line.split(" ")
    if words[0] not in COMMANDS or len(words) != len(COMMANDS[words[0]]) + 1:
        return None
    items = [read_item(word, kind) for word, kind in zip(words[1:], COMMANDS[words[0]])]
    return None if None in items else (words[0],) + tuple(items)


def read_item(word, kind):
    """What a word of this kind stands for, or None."""
    if kind == "integer":
        return integer_of(word)
    if kind == "name":
        return word if is_name(word) else None
    return word if word != "" else None


def list_text(told):
    """The text of a list."""
    texts = []
    for item in told:
        if item == "end":
            texts.append("end")
        else:
            texts.append(" ".join([item[0]] + [str(value) for value in item[1]]))
    return ", ".join(texts)
