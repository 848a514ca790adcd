"""Whether sayings hold in every world of all yards."""

from worldyard.asking import settled
from worldyard.changing import part_of
from worldyard.plains import denied
from worldyard.things import parts
from worldyard.walking import gathered, walked


def numbers_of(sayings, numbers):
    return [numbers[saying] for saying in sayings]


# The sayings that lie in a plain one are known by numbers: sayings[n] is the one with the number n,
# inner[n] are the numbers of its parts, contraries[n] is that of its denied one, None if that doesn't lie there.
# A row is a dict with such numbers, each with True.
# The worlds are those found so far in which rows hold, each behind the others to which it leads.
class Search:
    def __init__(self, saying, own):
        numbers = {}
        for part in walked(saying):
            numbers.setdefault(part, len(numbers))
        self.own = own
        self.sayings = list(numbers)
        self.inner = [numbers_of(parts(part), numbers) for part in self.sayings]
        self.contraries = [numbers.get(denied(part)) for part in self.sayings]
        self.worlds = []


def key_of(numbers):
    return tuple(sorted(set(numbers)))


def without(numbers, others):
    return [number for number in numbers if number not in others]


def with_head(search, row, head):
    return [number for number in row if search.sayings[number][0] == head]


# Of a row ("shown", tree, needed) is told if a tree shows it of those that are needed, some of the row,
# and ("held", world) if the row holds in the world.
def shown(tree, needed):
    return ("shown", tree, key_of(needed))


# The head of the tree that adds the saying's parts to its row; None if there is no such one.
def adding_head(search, number):
    head = search.sayings[number][0]
    if head == "and":
        return "both"
    if head == "all" and search.own == 1:
        return "self"
    return None


# Adds to the row what holds wherever it does; tells which heads of trees and sayings added what, in their order.
def grow(search, row):
    trail = []
    waiting = list(row)
    while len(waiting) > 0:
        number = waiting.pop()
        head = adding_head(search, number)
        added = without(search.inner[number], row)
        if head is not None and len(added) > 0:
            trail.append((head, number, added))
            row.update([(part, True) for part in added])
            waiting.extend(added)
    return trail


# What added nothing that is needed is left out of the tree.
def shown_behind(search, trail, told):
    tree = told[1]
    needed = told[2]
    for head, number, added in reversed(trail):
        if any([part in needed for part in added]):
            tree = (head, search.sayings[number], tree)
            needed = without(needed, added) + [number]
    return shown(tree, needed)


# A tree that shows it of the plain saying and its denied one; trees are those for its parts.
def tree_against(saying, trees):
    head = saying[0]
    if head == "name":
        return ("clash", saying[1])
    if head == "not":
        return trees[0]
    other = denied(saying)
    if head == "and":
        return ("both", saying, ("either", other, trees[0], trees[1]))
    if head == "or":
        return ("both", other, ("either", saying, trees[0], trees[1]))
    if head == "all":
        return ("step", other, trees[0])
    return ("step", saying, trees[0])


def shown_by_clash(search, number):
    tree = gathered(search.sayings[number], tree_against)
    return shown(tree, [number, search.contraries[number]])


# An or of which no part is in the row, best one of which a part can't be there; None if there is no such or.
def choice(search, row):
    eithers = [number for number in with_head(search, row, "or") if len(without(search.inner[number], row)) == 2]
    forced = [number for number in eithers if any([search.contraries[part] in row for part in search.inner[number]])]
    return (forced + eithers + [None])[0]


# A tree that doesn't need the part which the or adds shows it of the row already: no either is needed then.
def told_by_either(search, row, number, known):
    trees = []
    needed = [number]
    for part in search.inner[number]:
        key = key_of(list(row) + [part])
        told = known.get(key, ("ask", key))
        if told[0] != "shown" or part not in told[2]:
            return told
        trees.append(told[1])
        needed.extend(without(told[2], [part]))
    return shown(("either", search.sayings[number], trees[0], trees[1]), needed)


# In own yards the world leads to itself, so a some whose part is in the row asks for no other world.
def somes_to_ask(search, row):
    somes = with_head(search, row, "some")
    if search.own == 1:
        return [number for number in somes if search.inner[number][0] not in row]
    return somes


def alls_beside(search, row, some):
    kind = search.sayings[some][1]
    return [number for number in with_head(search, row, "all") if search.sayings[number][1] == kind]


# What holds in the world to which the way leads that the some speaks of.
def key_behind(search, row, some):
    alls = alls_beside(search, row, some)
    return key_of(search.inner[some] + [search.inner[number][0] for number in alls])


def shown_by_step(search, row, some, told):
    from_alls = without(told[2], search.inner[some])
    alls = [number for number in alls_beside(search, row, some) if search.inner[number][0] in from_alls]
    return shown(("step", search.sayings[some], told[1]), [some] + alls)


# Builds a world in which of all names just those of the row hold; tells its number.
def built(search, row, ways):
    number = len(search.worlds)
    itself = [number] if search.own == 1 else []
    names = [search.sayings[name][1] for name in with_head(search, row, "name")]
    search.worlds.append((tuple(sorted(names)), tuple([key_of(numbers + itself) for numbers in ways])))
    return number


def told_by_steps(search, row, known):
    ways = [[], [], []]
    for some in somes_to_ask(search, row):
        key = key_behind(search, row, some)
        told = known.get(key, ("ask", key))
        if told[0] == "ask":
            return told
        if told[0] == "shown":
            return shown_by_step(search, row, some, told)
        ways[search.sayings[some][1]].append(told[1])
    return ("held", built(search, row, ways))


def told_of_grown(search, row, known):
    for number in row:
        if search.contraries[number] in row:
            return shown_by_clash(search, number)
    either = choice(search, row)
    if either is not None:
        return told_by_either(search, row, either, known)
    return told_by_steps(search, row, known)


def told_of_row(search, key, known):
    row = dict([(number, True) for number in key])
    trail = grow(search, row)
    told = told_of_grown(search, row, known)
    if told[0] == "shown":
        return shown_behind(search, trail, told)
    return told


# The denied saying is the first of those that lie in it, so its number is 0.
def judged(saying, own):
    search = Search(denied(saying), own)
    told = settled((0,), lambda key, known: told_of_row(search, key, known))
    if told[0] == "shown":
        return ("holds", told[1])
    return ("fails", part_of(tuple(search.worlds), told[1]))
