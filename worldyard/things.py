"""What names, kinds, sayings, yards and own yards are."""

LETTERS = "abcdefghijklmnopqrstuvwxyz"
WORDS = ("not", "and", "or", "all", "some")


# A truth is an int to Python, but no whole number here.
def is_whole(thing):
    return isinstance(thing, int) and not isinstance(thing, bool)


def is_below(thing, bound):
    return is_whole(thing) and 0 <= thing < bound


def is_kind(thing):
    return is_below(thing, 3)


def is_name(thing):
    if not isinstance(thing, str) or thing in WORDS:
        return False
    return 1 <= len(thing) <= 4 and all([sign in LETTERS for sign in thing])


# Whether the thing is a saying, if its parts are sayings.
def is_formed(thing):
    if not isinstance(thing, tuple) or len(thing) == 0:
        return False
    head = thing[0]
    if head == "name":
        return len(thing) == 2 and is_name(thing[1])
    if head == "not":
        return len(thing) == 2
    if head == "and" or head == "or":
        return len(thing) == 3
    if head == "all" or head == "some":
        return len(thing) == 3 and is_kind(thing[1])
    return False


# The sayings of which the saying is made at once, in their order.
def parts(saying):
    head = saying[0]
    if head == "name":
        return ()
    if head == "all" or head == "some":
        return saying[2:]
    return saying[1:]


# A list of what waits stands in for calls within calls, so that no depth is too great.
def is_saying(thing):
    waiting = [thing]
    while len(waiting) > 0:
        part = waiting.pop()
        if not is_formed(part):
            return False
        waiting.extend(parts(part))
    return True


# Asked only of rows whose members are of one sort: others can't be compared.
def is_rising(row):
    return all([row[k] < row[k + 1] for k in range(len(row) - 1)])


def are_names(thing):
    return isinstance(thing, tuple) and all([is_name(part) for part in thing]) and is_rising(thing)


def are_worlds(thing, size):
    return isinstance(thing, tuple) and all([is_below(part, size) for part in thing]) and is_rising(thing)


def are_ways(thing, size):
    return isinstance(thing, tuple) and len(thing) == 3 and all([are_worlds(row, size) for row in thing])


def is_world(thing, size):
    return isinstance(thing, tuple) and len(thing) == 2 and are_names(thing[0]) and are_ways(thing[1], size)


def is_yard(thing):
    if not isinstance(thing, tuple) or len(thing) == 0:
        return False
    return all([is_world(part, len(thing)) for part in thing])


def leads_to_itself(yard, number):
    ways = yard[number][1]
    return all([number in row for row in ways])


def is_own(yard):
    return all([leads_to_itself(yard, number) for number in range(len(yard))])
