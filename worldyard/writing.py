"""The writing of sayings."""

from worldyard.errors import NoSaying
from worldyard.things import is_saying, parts


# The words of a saying that stand ahead of its parts.
def first_words(saying):
    head = saying[0]
    if head == "name":
        return [saying[1]]
    if head == "all" or head == "some":
        return [head, str(saying[1])]
    return [head]


# The parts wait last one first, since the next one is taken from the end.
def written(saying):
    if not is_saying(saying):
        raise NoSaying("what is no saying is not written")
    words = []
    waiting = [saying]
    while len(waiting) > 0:
        part = waiting.pop()
        words.extend(first_words(part))
        waiting.extend(parts(part)[::-1])
    return " ".join(words)
