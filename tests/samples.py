"""Sayings, things that are none, yards, and ways to build, tell and spoil them, for all tests."""

P = ("name", "p")
Q = ("name", "q")

# Each with its writing.
WRITINGS = [
    (P, "p"),
    (("name", "a"), "a"),
    (("name", "z"), "z"),
    (("name", "abcd"), "abcd"),
    (("name", "name"), "name"),
    (("name", "no"), "no"),
    (("name", "nots"), "nots"),
    (("name", "al"), "al"),
    (("not", P), "not p"),
    (("and", P, Q), "and p q"),
    (("or", P, Q), "or p q"),
    (("all", 0, P), "all 0 p"),
    (("all", 1, P), "all 1 p"),
    (("all", 2, P), "all 2 p"),
    (("some", 0, P), "some 0 p"),
    (("some", 1, P), "some 1 p"),
    (("some", 2, P), "some 2 p"),
    (("not", ("not", P)), "not not p"),
    (("and", ("or", P, Q), ("not", Q)), "and or p q not q"),
    (("or", P, ("and", Q, P)), "or p and q p"),
    (("or", ("and", Q, P), P), "or and q p p"),
    (("all", 0, ("some", 2, ("and", P, ("not", Q)))), "all 0 some 2 and p not q"),
    (("not", ("or", ("all", 1, P), ("some", 0, ("name", "rain")))), "not or all 1 p some 0 rain"),
    (("and", ("and", ("and", P, Q), P), ("and", Q, ("and", P, Q))), "and and and p q p and q and p q"),
]

# None of these is a saying, and none is one as a part of another thing.
NO_SAYINGS = [
    # Things of other sorts.
    0, 1, -1, 7, True, False, None, "", "p", "name", "not p", "and p q", (), [], ((),), ("p",), ("name",),
    # Other heads.
    ("Name", "p"), ("NOT", P), ("nand", P, Q), ("if", P, Q), ("", P), (0, P), (True, P), (None, P),
    (("not",), P), (["not"], P), (P, Q), ("box", 0, P), ("any", 0, P), ("p", "name"), ("name p",),
    # Other lengths.
    ("name", "p", "q"), ("name", "p", P), ("not",), ("not", P, Q), ("and",), ("and", P), ("and", P, Q, P),
    ("or",), ("or", P), ("or", P, Q, P), ("all",), ("all", 0), ("all", P), ("all", 0, P, Q),
    ("some",), ("some", 2), ("some", P), ("some", 0, P, Q),
    # Other kinds.
    ("all", 3, P), ("all", -1, P), ("all", True, P), ("all", False, P), ("all", None, P), ("all", "0", P),
    ("all", (0,), P), ("all", [0], P), ("all", 10 ** 30, P), ("all", P, 0),
    ("some", 3, P), ("some", -1, P), ("some", True, P), ("some", False, P), ("some", None, P), ("some", "0", P),
    ("some", (0,), P), ("some", [0], P), ("some", -(10 ** 30), P), ("some", P, 0),
    # Other names.
    ("name", ""), ("name", "abcde"), ("name", "P"), ("name", "pQ"), ("name", "p1"), ("name", "p "), ("name", " p"),
    ("name", "p q"), ("name", "a_b"), ("name", "`"), ("name", "{"), ("name", "ab\n"), ("name", "\u00e9"),
    ("name", "not"), ("name", "and"), ("name", "or"), ("name", "all"), ("name", "some"),
    ("name", 0), ("name", True), ("name", None), ("name", ("p",)), ("name", ["p"]), ("name", P),
    # Lists in the place of tuples.
    ["name", "p"], ["not", P], ["and", P, Q], ["or", P, Q], ["all", 0, P], ["some", 0, P],
    ("not", ["name", "p"]), ("and", P, ["name", "q"]), ("and", ["name", "p"], Q), ("all", 0, ["name", "p"]),
    # Names, numbers and the like where a saying belongs.
    ("not", "p"), ("not", 0), ("not", True), ("not", None), ("not", ()), ("and", "p", Q), ("and", P, "q"),
    ("or", None, Q), ("or", P, ()), ("all", 0, "p"), ("some", 0, 1),
]

LONE = ((), ((), (), ()))
LEADS_TO_ITSELF = ((), ((0,), (0,), (0,)))

YARDS = [
    (LONE,),
    (LEADS_TO_ITSELF,),
    ((("p",), ((), (), ())),),
    ((("a", "ab", "b", "name", "z"), ((), (), ())),),
    ((("p",), ((0,), (), ())),),
    (LONE, LONE, LONE),
    (((), ((1,), (0, 1), ())), (("p", "q"), ((), (), (0,)))),
    ((("p",), ((0, 1, 2), (2,), (1, 2))), (("q",), ((), (0,), (0, 2))), ((), ((1,), (), (0, 1, 2)))),
    tuple([((), ((k,), (), tuple(range(12)))) for k in range(12)]),
]


def wrapped(inner, depth):
    """The thing within as many others, by every head and at every place."""
    for step in range(depth):
        inner = [
            ("not", inner),
            ("and", inner, Q),
            ("or", P, inner),
            ("all", step % 3, inner),
            ("and", P, inner),
            ("some", step % 3, inner),
            ("or", inner, Q),
        ][step % 7]
    return inner


def said(yard, world, saying):
    """Whether it holds, straight from the document's sentence, world by world."""
    head = saying[0]
    if head == "name":
        return saying[1] in yard[world][0]
    if head == "not":
        return not said(yard, world, saying[1])
    if head == "and":
        return said(yard, world, saying[1]) and said(yard, world, saying[2])
    if head == "or":
        return said(yard, world, saying[1]) or said(yard, world, saying[2])
    worlds = yard[world][1][saying[1]]
    if head == "all":
        return all(said(yard, other, saying[2]) for other in worlds)
    return any(said(yard, other, saying[2]) for other in worlds)


def shown(tree, row, own):
    """Whether the tree, of tuples and of sayings, shows it: straight from the document's sentences."""
    head = tree[0]
    if head == "clash":
        return ("name", tree[1]) in row and ("not", ("name", tree[1])) in row
    a = tree[1]
    if a not in row:
        return False
    if head == "both":
        return a[0] == "and" and shown(tree[2], row + (a[1], a[2]), own)
    if head == "either":
        if a[0] != "or":
            return False
        return shown(tree[2], row + (a[1],), own) and shown(tree[3], row + (a[2],), own)
    if head == "self":
        return own == 1 and a[0] == "all" and shown(tree[2], row + (a[2],), own)
    if a[0] != "some":
        return False
    alls = [b[2] for b in row if b[0] == "all" and b[1] == a[1]]
    return shown(tree[2], (a[2],) + tuple(alls), own)


def sayings_to_depth(depth):
    """Every saying over the names p and q whose names lie in at most so many others."""
    found = [P, Q]
    for _ in range(depth):
        smaller = found
        found = [P, Q] + [("not", a) for a in smaller]
        found += [(head, a, b) for head in ("and", "or") for a in smaller for b in smaller]
        found += [(head, kind, a) for head in ("all", "some") for kind in (0, 1, 2) for a in smaller]
    return found


def spoilt_in_one_place(thing, spoil):
    """Each thing that comes of putting spoil in the place of one saying within the saying."""
    yield spoil
    for place, part in enumerate(thing):
        if isinstance(part, tuple):
            for worse in spoilt_in_one_place(part, spoil):
                yield thing[:place] + (worse,) + thing[place + 1:]


def drawn_saying(source, depth, names=("p", "q"), kinds=(0, 1, 2)):
    """A saying over the names and kinds whose names lie in at most so many others; source is a random.Random."""
    if depth == 0 or source.random() < 0.1:
        return ("name", source.choice(names))
    head = source.choice(("not", "and", "or", "and", "or", "all", "some"))
    first = drawn_saying(source, depth - 1, names, kinds)
    if head == "not":
        return (head, first)
    if head in ("all", "some"):
        return (head, source.choice(kinds), first)
    return (head, first, drawn_saying(source, depth - 1, names, kinds))


def drawn_yard(source, size, own=0):
    """A yard of that many worlds, few ways or many, few names or many."""
    dense = source.choice((0.1, 0.2, 0.5, 0.8))
    named = source.choice((0.0, 0.2, 0.5))
    worlds = []
    for world in range(size):
        names = tuple([name for name in ("p", "q") if source.random() < named])
        ways = [
            tuple([other for other in range(size) if (own and other == world) or source.random() < dense])
            for kind in (0, 1, 2)
        ]
        worlds.append((names, tuple(ways)))
    return tuple(worlds)


def is_of_tuples(thing):
    """Whether the thing is made of nothing but tuples, texts and whole numbers."""
    waiting = [thing]
    while waiting:
        part = waiting.pop()
        if type(part) is tuple:
            waiting.extend(part)
        elif type(part) not in (str, int):
            return False
    return True
