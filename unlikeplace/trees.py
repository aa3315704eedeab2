"""What sayings and talks have in common: leaves, and parts that go on with two others, their last two things."""


def upward(tree, leaf):
    """The list of all parts of a tree, each behind the two that it goes on with; leaf is a leaf's first word.

    Walking it replaces recursion: what was told may be handed in again and may be deeper than Python's calls go.
    """
    waiting = [tree]
    downward = []
    while waiting:
        part = waiting.pop()
        downward.append(part)
        if part[0] != leaf:
            waiting.append(part[-2])
            waiting.append(part[-1])
    return downward[::-1]


def folded(tree, leaf, of_leaf, of_fork):
    """What comes of a tree: of_leaf tells it of a leaf, of_fork of another part and of what came of its last two."""
    done = []
    for part in upward(tree, leaf):
        if part[0] == leaf:
            done.append(of_leaf(part))
        else:
            second = done.pop()
            first = done.pop()
            done.append(of_fork(part, first, second))
    return done[0]


def tree_deep(tree, leaf):
    """The depth of a tree."""
    return folded(tree, leaf, lambda part: 0,
                  lambda part, first, second: 1 + max(first, second))


def tree_leaves(tree, leaf):
    """How many leaves a tree has."""
    return len([part for part in upward(tree, leaf) if part[0] == leaf])
