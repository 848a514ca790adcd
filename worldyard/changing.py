"""The yards that come of others."""

from worldyard.errors import NoWorld
from worldyard.truth import must_have, truths


# Ways to worlds that have no place go away; several worlds may have the same one.
def moved_row(row, places):
    return tuple(sorted(set([places[number] for number in row if number in places])))


def moved_world(world, places):
    return (world[0], tuple([moved_row(row, places) for row in world[1]]))


# The kept worlds in their order; places, a dict, tells for each world where ways to it lead from now on.
def moved(yard, kept, places):
    return tuple([moved_world(yard[number], places) for number in kept])


def numbered_anew(yard, kept):
    places = dict([(number, place) for place, number in enumerate(kept)])
    return moved(yard, kept, places)


def reached(yard, world):
    must_have(yard, world)
    found = {world: True}
    waiting = [world]
    while len(waiting) > 0:
        ways = yard[waiting.pop()][1]
        for number in ways[0] + ways[1] + ways[2]:
            if number not in found:
                found[number] = True
                waiting.append(number)
    return tuple(sorted(found))


def part_of(yard, world):
    others = [number for number in reached(yard, world) if number != world]
    return numbered_anew(yard, [world] + others)


def told_to_all(yard, saying):
    kept = [number for number, truth in enumerate(truths(yard, saying)) if truth]
    if len(kept) == 0:
        raise NoWorld("the saying holds in no world of the yard")
    return numbered_anew(yard, kept)


def beside(one, other):
    worlds = list(range(len(other)))
    return one + moved(other, worlds, dict([(number, number + len(one)) for number in worlds]))


def renamed(yard, places):
    kept = sorted(range(len(yard)), key=lambda number: places[number])
    return numbered_anew(yard, kept)
