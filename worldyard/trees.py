"""The trees that show of plain sayings that they can't all hold in one world."""

from worldyard.things import is_saying


# To Python a truth equals a number, so what equals one of the row may still be no saying.
def is_among(thing, head, row):
    return thing in row and is_saying(thing) and thing[0] == head


def is_clash(name, row):
    return ("name", name) in row and ("not", ("name", name)) in row


# What holds wherever the way leads that the some speaks of.
def stepped(some, row):
    alls = [saying for saying in row if saying[0] == "all" and saying[1] == some[1]]
    return some[2:] + tuple([saying[2] for saying in alls])


# The row of which the tree within must show it; None where the head and the saying don't stand there rightly.
def row_within(head, saying, row, own):
    if head == "both" and is_among(saying, "and", row):
        return row + saying[1:]
    if head == "self" and own == 1 and is_among(saying, "all", row):
        return row + saying[2:]
    if head == "step" and is_among(saying, "some", row):
        return stepped(saying, row)
    return None


# The trees within, each with the row of which it must show it; None where the tree can't show it of its row.
def left_to_show(tree, row, own):
    if not isinstance(tree, tuple):
        return None
    if len(tree) == 2 and tree[0] == "clash" and is_clash(tree[1], row):
        return []
    if len(tree) == 4 and tree[0] == "either" and is_among(tree[1], "or", row):
        return [(tree[2], row + tree[1][1:2]), (tree[3], row + tree[1][2:])]
    if len(tree) == 3:
        within = row_within(tree[0], tree[1], row, own)
        return None if within is None else [(tree[2], within)]
    return None


# A list of what waits stands in for calls within calls, so that no depth is too great.
def shows(tree, sayings, own):
    waiting = [(tree, sayings)]
    while len(waiting) > 0:
        pair = waiting.pop()
        left = left_to_show(pair[0], pair[1], own)
        if left is None:
            return False
        waiting.extend(left)
    return True
