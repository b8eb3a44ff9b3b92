"""Webs and values that several tests use, and plain oracles to hold the program against."""

import random
from itertools import permutations

from owedround.base.tables import Table
from owedround.base.webs import Web, full_web
from owedround.owe.debts import Debts

RING = Web.from_lines("tie a b", "tie a c", "tie b c")
KITE = Web.from_lines("tie a b", "tie a c", "tie b c", "tie b d", "tie c d")
FOUR = Web.from_lines("tie a b", "tie a c", "tie a d", "tie b c", "tie b d", "tie c d")
PAIR = Web.from_lines("tie a b")
TAIL = KITE.with_place("e", "d")
LINE = Web.from_lines("tie a b", "tie b c", "tie c d")
DUMBBELL = Web.from_lines(
    "tie a b", "tie a c", "tie b c", "tie c d", "tie d e", "tie d f", "tie e f"
)
SIX = full_web(("a", "b", "c", "d", "e", "f"))
NINE = Web.of_ties(*[(a, b) for a, b in zip("abcdefgh", "bcdefghi")])
# Nine places and eighteen ties: each place is tied to the two next ones round a ring.
FULLEST = Web.of_ties(
    *[tuple(sorted(("abcdefghi"[k], "abcdefghi"[(k + step) % 9]))) for k in range(9) for step in (1, 2)]
)
WEBS = (RING, KITE, FOUR, PAIR, TAIL, LINE, DUMBBELL, SIX, NINE, FULLEST)
SMALL = (PAIR, RING, KITE, FOUR, TAIL, LINE, DUMBBELL)
# Names whose order is not that of their lengths, and a place in the middle of all ties.
ODD = Web.from_lines("tie ab b", "tie a ab", "tie ab z", "tie a b", "tie abc z", "tie ab abc")

FLAT = Table.from_lines("a: b c", "b: a c d", "c: a d b", "d: b c")
TWIST = Table.from_lines("a: b c", "b: a c d", "c: a b d", "d: b c")
STAR = Table.from_lines("a: b d c", "b: a c d", "c: a d b", "d: a b c")
TABLES = (FLAT, TWIST, STAR) + tuple(Table.plain(web) for web in WEBS + (ODD,))

# Values that are neither a name nor a tie nor a web nor an integer, nor anything else of this package.
STRANGE = (
    None,
    True,
    False,
    10 ** 60,
    -(10 ** 99),
    "",
    "A",
    "a b",
    "abcdefghi",
    "a1",
    "a\n",
    "x" * 4000,
    (),
    [],
    {},
    ("a",),
    ["a", "b"],
    ("a", ["b"]),
    ("a", 1),
    ("b", "a"),
    ("a", "a"),
    ("a", "b", "c", 1),
    (("a", "b"),),
    {"a": "b"},
    {(): [{}]},
    ["a", [{"b": [(("c", {}),)]}]],
)
ALL_STRANGE = STRANGE + (RING, (RING, KITE), [FOUR], {"a": RING})
# These are no places of the webs here, whatever else they are.
NO_PLACES = ALL_STRANGE + ("zz", "A", 0, FLAT, Debts.none(KITE))


def debts_with_total(web, total, many, seed, most=3):
    """Some debts of a total, always the same ones."""
    rnd = random.Random(seed)
    told = []
    for _ in range(many):
        debts = Debts(web, {place: rnd.randint(-most, most) for place in web.places})
        told.append(debts + (total - debts.total) * Debts.at(web, rnd.choice(web.places)))
    return told


def joined(places, ties):
    """Whether places hang together along ties, by painting them again and again."""
    found = set(places[:1])
    for _ in places:
        for a, b in ties:
            if a in found or b in found:
                found |= {a, b}
    return bool(places) and found == set(places)


def rings_by_trial(web):
    """All rings from their least places on, found by trying all orders of all places."""
    tied = {(a, b) for a, b in web.ties} | {(b, a) for a, b in web.ties}
    found = []
    for many in range(3, len(web.places) + 1):
        for way in permutations(web.places, many):
            if way[0] == min(way) and all(pair in tied for pair in zip(way, way[1:] + way[:1])):
                found.append(way)
    return sorted(found)
