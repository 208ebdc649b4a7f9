"""The texts of trees and pipelines."""

from pushalike.base.arguments import ARGUMENTS
from pushalike.base.words import is_name
from pushalike.errors import InvalidPipeline, ParseError
from pushalike.tree.argument_texts import argument_text, read_argument
from pushalike.tree.forms import parts_of
from pushalike.tree.pipelines import Pipeline, is_tree

# Their trees are written without parentheses.
BARE = ("source", "it")


def write_tree(tree):
    """The text of a tree."""
    if not is_tree(tree):
        raise InvalidPipeline("this is no tree")
    return text_of(tree)


def write_pipeline(pipeline):
    """The text of a pipeline."""
    if not isinstance(pipeline, Pipeline):
        raise InvalidPipeline("this is no pipeline")
    return text_of(pipeline.tree)


def read_tree(text):
    """The tree with this text."""
    tree = tree_of_words(words_of(text))
    if not is_tree(tree):
        raise InvalidPipeline("the tree has too many parts")
    return tree


def read_pipeline(text):
    """The pipeline with this text."""
    return Pipeline.of(read_tree(text))


def text_of(tree):
    """The text of what is a tree."""
    if tree[0] in BARE:
        # The name of a source, and of an ("it",) its word.
        return tree[-1]
    kinds = ARGUMENTS[tree[0]]
    texts = [argument_text(tree[k + 1], kinds[k]) for k in range(len(kinds)) if kinds[k] != "part"]
    words = [tree[0]] + texts + [text_of(part) for part in parts_of(tree)]
    return "(" + " ".join(words) + ")"


def words_of(text):
    """The words of a text, which must have its blanks in the right places."""
    if not isinstance(text, str):
        raise ParseError(None)
    words = [word for word in text.replace("(", " ( ").replace(")", " ) ").split(" ") if word != ""]
    if text != joined_words(words):
        raise ParseError(None)
    return words


def joined_words(words):
    """The text of words with a blank between two of them, but none after `(` and none before `)`."""
    signs = []
    for index, word in enumerate(words):
        if index > 0 and words[index - 1] != "(" and word != ")":
            signs.append(" ")
        signs.append(word)
    return "".join(signs)


def tree_of_words(words):
    """The tree with these words, however many parts it has."""
    # A text can be nested far deeper than functions should call themselves, so what has begun is kept here:
    # of each tree in parentheses its word, its arguments and its parts so far.
    begun = []
    for index, word in enumerate(words):
        kind = kind_after(begun)
        if kind == "part" and word == "(":
            begun.append([])
            continue
        item = read_word(word, kind)
        if item is None:
            raise ParseError(index)
        if kind == ")":
            item = tuple(begun.pop())
        if len(begun) > 0:
            begun[-1].append(item)
        elif index + 1 == len(words):
            return item
        else:
            raise ParseError(index + 1)
    raise ParseError(len(words))


def kind_after(begun):
    """Of which kind the next word must be."""
    if len(begun) == 0:
        return "part"
    items = begun[-1]
    if len(items) == 0:
        return "word"
    kinds = ARGUMENTS[items[0]]
    return kinds[len(items) - 1] if len(items) <= len(kinds) else ")"


def read_word(word, kind):
    """What a word of this kind stands for, or None if it is none."""
    if kind == ")":
        return word if word == ")" else None
    if kind == "word":
        return word if word in ARGUMENTS and word not in BARE else None
    if kind == "part":
        if word == "it":
            return ("it",)
        return ("source", word) if is_name(word) else None
    return read_argument(word, kind)
