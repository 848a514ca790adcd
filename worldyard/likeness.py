"""Which worlds of a yard are like one another, and what tells the others apart."""

from worldyard.asking import settled
from worldyard.changing import moved
from worldyard.errors import NoSaying
from worldyard.plains import denied
from worldyard.truth import led_to, must_have, row_of, truths


# For each mark the place of the first one that equals it.
def first_places(marks):
    first = {}
    for place, mark in enumerate(marks):
        first.setdefault(mark, place)
    return [first[mark] for mark in marks]


# What tells a world from others of its sort: which sorts of worlds it leads to.
def mark_of(world, sorts, number):
    return (sorts[number], tuple([tuple(sorted(set(led_to(world, kind, sorts)))) for kind in range(3)]))


def next_stage(yard, sorts):
    return first_places([mark_of(world, sorts, number) for number, world in enumerate(yard)])


# For each number of steps, from 0 on: the least worlds that can't be told from each world in so many steps.
# The last ones are those that no number of steps tells apart.
def stages_of(yard):
    stages = [first_places([world[0] for world in yard])]
    finer = next_stage(yard, stages[0])
    while finer != stages[-1]:
        stages.append(finer)
        finer = next_stage(yard, finer)
    return stages


def likeness(yard):
    return tuple(stages_of(yard)[-1])


def folded(yard):
    least = likeness(yard)
    kept = sorted(set(least))
    places = dict([(number, kept.index(like)) for number, like in enumerate(least)])
    return moved(yard, kept, places)


# How many steps are needed to tell the worlds apart, which are not like.
def steps_to_tell(stages, one, other):
    return [stage[one] == stage[other] for stage in stages].index(False)


# A saying of one name that holds in one and not in other, whose names are not the same.
def saying_of_names(one, other):
    for name in one[0]:
        if name not in other[0]:
            return ("name", name)
    lacking = [name for name in other[0] if name not in one[0]]
    return ("not", ("name", lacking[0]))


# A kind and a world to which one leads by it, such as other leads to none of its sort; None if there is none.
def unmatched(one, other, sorts):
    for kind in range(3):
        met = led_to(other, kind, sorts)
        for number in one[1][kind]:
            if sorts[number] not in met:
                return (kind, number)
    return None


# Neighbours are put together time and again, so that no saying lies in more others than it must.
def all_of(sayings):
    row = list(sayings)
    while len(row) > 1:
        pairs = [("and", row[k], row[k + 1]) for k in range(0, len(row) - 1, 2)]
        row = pairs + row[2 * len(pairs):]
    return row[0]


def true_in(world):
    if len(world[0]) > 0:
        return ("name", world[0][0])
    return ("not", ("name", "a"))


# Of a pair of worlds ("told", saying, row) is told: in the row stands for each world whether the saying holds there.
def told_by_names(yard, one, other):
    saying = saying_of_names(one, other)
    return ("told", saying, truths(yard, saying))


def told_backward(back):
    return ("told", denied(back[1]), [not truth for truth in back[2]])


def told_by_some(yard, kind, inner, row):
    saying = ("some", kind, inner)
    return ("told", saying, row_of(yard, saying, [row]))


# A some that holds where a way of the kind leads to the world near, and not where ways lead to those of far alone.
# Near is told just from those of far in which all sayings so far hold: told from each, it would grow beyond measure.
def told_by_step(yard, kind, near, far, known):
    if len(far) == 0:
        saying = true_in(yard[near])
        return told_by_some(yard, kind, saying, truths(yard, saying))
    sayings = []
    row = [True for world in yard]
    for number in far:
        if row[number]:
            pair = (near, number)
            if pair not in known:
                return ("ask", pair)
            sayings.append(known[pair][1])
            row = [so_far and truth for so_far, truth in zip(row, known[pair][2])]
    return told_by_some(yard, kind, all_of(sayings), row)


# What holds in the first world of the pair and not in the second one.
def told_of_pair(yard, stages, pair, known):
    one = yard[pair[0]]
    other = yard[pair[1]]
    steps = steps_to_tell(stages, pair[0], pair[1])
    if steps == 0:
        return told_by_names(yard, one, other)
    step = unmatched(one, other, stages[steps - 1])
    if step is not None:
        return told_by_step(yard, step[0], step[1], other[1][step[0]], known)
    back = (pair[1], pair[0])
    if back not in known:
        return ("ask", back)
    return told_backward(known[back])


def telling(yard, one, other):
    must_have(yard, one)
    must_have(yard, other)
    stages = stages_of(yard)
    if stages[-1][one] == stages[-1][other]:
        raise NoSaying("no saying tells like worlds apart")
    return settled((one, other), lambda pair, known: told_of_pair(yard, stages, pair, known))[1]
