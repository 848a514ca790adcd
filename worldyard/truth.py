"""What holds in the worlds of a yard."""

from worldyard.errors import NoWorld
from worldyard.things import is_below
from worldyard.walking import gathered


# Of the worlds to which ways of the kind lead: the members of a row that has one for each world.
def led_to(world, kind, row):
    return [row[number] for number in world[1][kind]]


# For each world whether the saying holds there; rows tell it of the saying's parts.
def row_of(yard, saying, rows):
    head = saying[0]
    if head == "name":
        return [saying[1] in world[0] for world in yard]
    if head == "not":
        return [not truth for truth in rows[0]]
    if head == "and":
        return [one and other for one, other in zip(rows[0], rows[1])]
    if head == "or":
        return [one or other for one, other in zip(rows[0], rows[1])]
    if head == "all":
        return [all(led_to(world, saying[1], rows[0])) for world in yard]
    return [any(led_to(world, saying[1], rows[0])) for world in yard]


# All worlds are told at once: to follow the ways world by world takes too long where they meet again and again.
def truths(yard, saying):
    return gathered(saying, lambda part, rows: row_of(yard, part, rows))


def must_have(yard, world):
    if not is_below(world, len(yard)):
        raise NoWorld("the yard has no such world")


def holds(yard, world, saying):
    must_have(yard, world)
    return truths(yard, saying)[world]


def everywhere(yard, saying):
    return all(truths(yard, saying))
