"""What parts tell at their begin, as far as it decides whether they are over there.

A part is told here as a pair: the letters of the outputs of its begin list, as one string,
and whether it is over. Outputs of a begin list come from ("one", letter) alone, perhaps by way
of an ("it",), so they have no values, and letters tell all of them.
"""

from pushalike.tree.forms import parts_of


def is_over_at_begin(tree):
    """Whether a part without an ("it",) of a pattern around it is over at its begin."""
    return begun(tree, "")[1]


def begun(tree, own):
    """The letters and the end of a part; `own` is the letter for the ("it",) of the pattern around it."""
    parts = parts_of(tree)
    if len(parts) == 0:
        return begun_leaf(tree, own)
    letters, over = begun(parts[0], own)
    if len(parts) == 1:
        return begun_single(tree, letters, over)
    if tree[0] in ("switch", "busy"):
        return begun_copies(tree, letters, over)
    if tree[0] == "else" or (tree[0] == "then" and not over):
        # The second part is not begun here.
        return letters, over
    others, other_over = begun(parts[1], own)
    return begun_double(tree[0], (letters, over), (others, other_over))


def begun_leaf(tree, own):
    """The letters and the end of a leaf."""
    if tree[0] == "one":
        return tree[1], True
    if tree[0] == "it":
        return own, True
    return "", False


def begun_single(tree, letters, over):
    """The letters and the end of an operator over one part that tells these."""
    word = tree[0]
    if word == "only":
        return "".join([letter for letter in letters if letter in tree[1]]), over
    if word == "fold":
        return folded(tree[1], letters), over
    if word == "first":
        return letters[:tree[1]], over or len(letters) >= tree[1]
    if word == "spaced":
        return letters[:1], over
    if word == "pairs":
        return letters[1:], over
    if word == "quiet":
        return (letters[-1:] if over else ""), over
    if word == "late":
        return "", over and letters == ""
    if word == "again":
        return letters, False
    return letters, over


def folded(table, letters):
    """The letters that a fold tells for these."""
    steps = dict(table)
    state, told = 0, ""
    for letter in letters:
        if (state, letter) in steps:
            state, other = steps[(state, letter)]
            told = told + other
    return told


def begun_double(word, one, other):
    """The letters and the end of an operator over two parts that tell these, both begun."""
    letters, over = one
    others, other_over = other
    if word == "+":
        return letters + others, over and other_over
    if word == "&":
        # The first part has no elder output of the second one to meet.
        return (others if letters else ""), over and other_over
    if word == "at":
        return (letters[-1:] if others else ""), other_over
    if word == "until":
        return letters, over or others != ""
    return letters + others, other_over


def begun_copies(tree, letters, over):
    """The letters and the end of a switch or busy over a part that tells these."""
    told, running = "", False
    for letter in letters:
        if tree[0] == "switch" or not running:
            copied, ended = begun(tree[2], letter)
            told, running = told + copied, not ended
    return told, over and not running
