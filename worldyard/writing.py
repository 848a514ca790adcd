"""The writing of sayings."""

from worldyard.errors import NoSaying
from worldyard.things import is_saying
from worldyard.walking import walked


# The words of a saying that stand ahead of its parts.
def first_words(saying):
    head = saying[0]
    if head == "name":
        return [saying[1]]
    if head == "all" or head == "some":
        return [head, str(saying[1])]
    return [head]


def written(saying):
    if not is_saying(saying):
        raise NoSaying("what is no saying is not written")
    words = []
    for part in walked(saying):
        words.extend(first_words(part))
    return " ".join(words)
