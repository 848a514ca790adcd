"""The walk through a saying and what lies in it."""

from worldyard.things import parts


# The saying and all that lie in it, each ahead of its parts, in the order of their writing.
# The parts wait last one first, since the next one is taken from the end.
def walked(saying):
    found = []
    waiting = [saying]
    while len(waiting) > 0:
        part = waiting.pop()
        found.append(part)
        waiting.extend(parts(part)[::-1])
    return found


# What tell(part, told) tells of the whole saying, told being a list of what it told of the part's own parts.
# From the end on, all parts come ahead of what they lie in; so no calls within calls are needed, however deep it is.
def gathered(saying, tell):
    ready = []
    for part in reversed(walked(saying)):
        told = [ready.pop() for inner in parts(part)]
        ready.append(tell(part, told))
    return ready.pop()
