"""What sayings and talks have in common: leaves, and parts that go on with two others, their last two things."""


def upward(tree, leaf):
    """The list of all parts of a tree, each behind the two that it goes on with; leaf is a leaf's first word.

    Walking it replaces recursion: what was told may be handed in again and may be deeper than Python's calls go.
    """
    waiting = [tree]
    downward = []
    while waiting:
        part = waiting.pop()
        downward.append(part)
        if part[0] != leaf:
            waiting.append(part[-2])
            waiting.append(part[-1])
    return downward[::-1]


def tree_deep(tree, leaf):
    """The depth of a tree."""
    depths = []
    for part in upward(tree, leaf):
        if part[0] == leaf:
            depths.append(0)
        else:
            other = depths.pop()
            one = depths.pop()
            depths.append(1 + max(one, other))
    return depths[0]


def tree_leaves(tree, leaf):
    """How many leaves a tree has."""
    return len([part for part in upward(tree, leaf) if part[0] == leaf])
