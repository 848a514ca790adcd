"""Sayings, things that are none, yards, and ways to build and spoil sayings, for all tests."""

P = ("name", "p")
Q = ("name", "q")

# Each with its writing.
WRITINGS = [
    (P, "p"),
    (("name", "a"), "a"),
    (("name", "z"), "z"),
    (("name", "abcd"), "abcd"),
    (("name", "name"), "name"),
    (("name", "no"), "no"),
    (("name", "nots"), "nots"),
    (("name", "al"), "al"),
    (("not", P), "not p"),
    (("and", P, Q), "and p q"),
    (("or", P, Q), "or p q"),
    (("all", 0, P), "all 0 p"),
    (("all", 1, P), "all 1 p"),
    (("all", 2, P), "all 2 p"),
    (("some", 0, P), "some 0 p"),
    (("some", 1, P), "some 1 p"),
    (("some", 2, P), "some 2 p"),
    (("not", ("not", P)), "not not p"),
    (("and", ("or", P, Q), ("not", Q)), "and or p q not q"),
    (("or", P, ("and", Q, P)), "or p and q p"),
    (("or", ("and", Q, P), P), "or and q p p"),
    (("all", 0, ("some", 2, ("and", P, ("not", Q)))), "all 0 some 2 and p not q"),
    (("not", ("or", ("all", 1, P), ("some", 0, ("name", "rain")))), "not or all 1 p some 0 rain"),
    (("and", ("and", ("and", P, Q), P), ("and", Q, ("and", P, Q))), "and and and p q p and q and p q"),
]

# None of these is a saying, and none is one as a part of another thing.
NO_SAYINGS = [
    # Things of other sorts.
    0, 1, -1, 7, True, False, None, "", "p", "name", "not p", "and p q", (), [], ((),), ("p",), ("name",),
    # Other heads.
    ("Name", "p"), ("NOT", P), ("nand", P, Q), ("if", P, Q), ("", P), (0, P), (True, P), (None, P),
    (("not",), P), (["not"], P), (P, Q), ("box", 0, P), ("any", 0, P), ("p", "name"), ("name p",),
    # Other lengths.
    ("name", "p", "q"), ("name", "p", P), ("not",), ("not", P, Q), ("and",), ("and", P), ("and", P, Q, P),
    ("or",), ("or", P), ("or", P, Q, P), ("all",), ("all", 0), ("all", P), ("all", 0, P, Q),
    ("some",), ("some", 2), ("some", P), ("some", 0, P, Q),
    # Other kinds.
    ("all", 3, P), ("all", -1, P), ("all", True, P), ("all", False, P), ("all", None, P), ("all", "0", P),
    ("all", (0,), P), ("all", [0], P), ("all", 10 ** 30, P), ("all", P, 0),
    ("some", 3, P), ("some", -1, P), ("some", True, P), ("some", False, P), ("some", None, P), ("some", "0", P),
    ("some", (0,), P), ("some", [0], P), ("some", -(10 ** 30), P), ("some", P, 0),
    # Other names.
    ("name", ""), ("name", "abcde"), ("name", "P"), ("name", "pQ"), ("name", "p1"), ("name", "p "), ("name", " p"),
    ("name", "p q"), ("name", "a_b"), ("name", "`"), ("name", "{"), ("name", "ab\n"), ("name", "\u00e9"),
    ("name", "not"), ("name", "and"), ("name", "or"), ("name", "all"), ("name", "some"),
    ("name", 0), ("name", True), ("name", None), ("name", ("p",)), ("name", ["p"]), ("name", P),
    # Lists in the place of tuples.
    ["name", "p"], ["not", P], ["and", P, Q], ["or", P, Q], ["all", 0, P], ["some", 0, P],
    ("not", ["name", "p"]), ("and", P, ["name", "q"]), ("and", ["name", "p"], Q), ("all", 0, ["name", "p"]),
    # Names, numbers and the like where a saying belongs.
    ("not", "p"), ("not", 0), ("not", True), ("not", None), ("not", ()), ("and", "p", Q), ("and", P, "q"),
    ("or", None, Q), ("or", P, ()), ("all", 0, "p"), ("some", 0, 1),
]

LONE = ((), ((), (), ()))
LEADS_TO_ITSELF = ((), ((0,), (0,), (0,)))

YARDS = [
    (LONE,),
    (LEADS_TO_ITSELF,),
    ((("p",), ((), (), ())),),
    ((("a", "ab", "b", "name", "z"), ((), (), ())),),
    ((("p",), ((0,), (), ())),),
    (LONE, LONE, LONE),
    (((), ((1,), (0, 1), ())), (("p", "q"), ((), (), (0,)))),
    ((("p",), ((0, 1, 2), (2,), (1, 2))), (("q",), ((), (0,), (0, 2))), ((), ((1,), (), (0, 1, 2)))),
    tuple([((), ((k,), (), tuple(range(12)))) for k in range(12)]),
]


def wrapped(inner, depth):
    """The thing within as many others, by every head and at every place."""
    for step in range(depth):
        inner = [
            ("not", inner),
            ("and", inner, Q),
            ("or", P, inner),
            ("all", step % 3, inner),
            ("and", P, inner),
            ("some", step % 3, inner),
            ("or", inner, Q),
        ][step % 7]
    return inner


def sayings_to_depth(depth):
    """Every saying over the names p and q whose names lie in at most so many others."""
    found = [P, Q]
    for _ in range(depth):
        smaller = found
        found = [P, Q] + [("not", a) for a in smaller]
        found += [(head, a, b) for head in ("and", "or") for a in smaller for b in smaller]
        found += [(head, kind, a) for head in ("all", "some") for kind in (0, 1, 2) for a in smaller]
    return found


def spoilt_in_one_place(thing, spoil):
    """Each thing that comes of putting spoil in the place of one saying within the saying."""
    yield spoil
    for place, part in enumerate(thing):
        if isinstance(part, tuple):
            for worse in spoilt_in_one_place(part, spoil):
                yield thing[:place] + (worse,) + thing[place + 1:]
