"""The reading of sayings."""

from worldyard.errors import NoText
from worldyard.things import is_kind, is_name

# Each at the place of its number.
KINDS = ("0", "1", "2")


# What was read last stands at the end: it is the nearest behind the word that asks for it.
def taken(ready):
    if len(ready) == 0:
        raise NoText("a part is missing")
    return ready.pop()


def taken_kind(ready):
    kind = taken(ready)
    if not is_kind(kind):
        raise NoText("a kind is missing")
    return kind


def taken_saying(ready):
    saying = taken(ready)
    if is_kind(saying):
        raise NoText("a kind stands where a saying belongs")
    return saying


# The saying or the kind that begins with the word; its parts are taken out of what is ready.
def begun_with(word, ready):
    if is_name(word):
        return ("name", word)
    if word in KINDS:
        return KINDS.index(word)
    if word == "not":
        return ("not", taken_saying(ready))
    if word == "and" or word == "or":
        first = taken_saying(ready)
        return (word, first, taken_saying(ready))
    if word == "all" or word == "some":
        kind = taken_kind(ready)
        return (word, kind, taken_saying(ready))
    raise NoText("a word is neither a name nor a kind nor a head")


# Read from the end on, the parts of each word are ready when it comes, however deep they lie.
# A blank too many leaves an empty word, which begins nothing.
def read(text):
    ready = []
    for word in reversed(text.split(" ")):
        ready.append(begun_with(word, ready))
    saying = taken_saying(ready)
    if len(ready) > 0:
        raise NoText("words stand behind the saying")
    return saying
