"""The plain forms of sayings, and how deep they are."""

from worldyard.walking import gathered

TURNED = {"and": "or", "or": "and", "all": "some", "some": "all"}


# The plain forms of the saying and of its not; pairs are those of its parts.
# Both are kept, since a not further out may ask for either.
def plain_pair(saying, pairs):
    head = saying[0]
    if head == "name":
        return (saying, ("not", saying))
    if head == "not":
        return (pairs[0][1], pairs[0][0])
    turned = TURNED[head]
    if head == "and" or head == "or":
        one = pairs[0]
        other = pairs[1]
        return ((head, one[0], other[0]), (turned, one[1], other[1]))
    kind = saying[1]
    return ((head, kind, pairs[0][0]), (turned, kind, pairs[0][1]))


def plain(saying):
    return gathered(saying, plain_pair)[0]


def denied(saying):
    return gathered(saying, plain_pair)[1]


def depth_over(saying, depths):
    deepest = max(depths, default=0)
    if saying[0] == "all" or saying[0] == "some":
        return deepest + 1
    return deepest


def deep(saying):
    return gathered(saying, depth_over)
