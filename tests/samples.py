"""Webs and values that several tests use, and plain oracles to hold the program against."""

import random
from itertools import permutations

from owedround.base.tables import Table
from owedround.base.webs import Web, full_web
from owedround.owe.debts import Debts

RING = Web.from_lines("tie a b", "tie a c", "tie b c")
KITE = Web.from_lines("tie a b", "tie a c", "tie b c", "tie b d", "tie c d")
FOUR = Web.from_lines("tie a b", "tie a c", "tie a d", "tie b c", "tie b d", "tie c d")
PAIR = Web.from_lines("tie a b")
TAIL = KITE.with_place("e", "d")
LINE = Web.from_lines("tie a b", "tie b c", "tie c d")
DUMBBELL = Web.from_lines(
    "tie a b", "tie a c", "tie b c", "tie c d", "tie d e", "tie d f", "tie e f"
)
SIX = full_web(("a", "b", "c", "d", "e", "f"))
NINE = Web.of_ties(*[(a, b) for a, b in zip("abcdefgh", "bcdefghi")])
# Nine places and eighteen ties: each place is tied to the two next ones round a ring.
FULLEST = Web.of_ties(
    *[tuple(sorted(("abcdefghi"[k], "abcdefghi"[(k + step) % 9]))) for k in range(9) for step in (1, 2)]
)
FULL_FIVE = full_web(tuple("abcde"))
# The webs for which busy ties are counted for many tables and starts, with 8 to 130 joining trees.
COUNTED = (
    KITE,
    FULL_FIVE.without_tie("a", "b").without_tie("c", "d"),
    Web.of_ties(*[tie for tie in SIX if tie not in (("a", "b"), ("a", "f"), *zip("bcde", "cdef"))]),
    FULL_FIVE,
    Web.of_ties(*[tie for tie in SIX if tie not in list(zip("abcde", "bcdef"))]),
)
WEBS = (RING, KITE, FOUR, PAIR, TAIL, LINE, DUMBBELL, SIX, NINE, FULLEST)
SMALL = (PAIR, RING, KITE, FOUR, TAIL, LINE, DUMBBELL)
# Names whose order is not that of their lengths, and a place in the middle of all ties.
ODD = Web.from_lines("tie ab b", "tie a ab", "tie ab z", "tie a b", "tie abc z", "tie ab abc")

FLAT = Table.from_lines("a: b c", "b: a c d", "c: a d b", "d: b c")
TWIST = Table.from_lines("a: b c", "b: a c d", "c: a b d", "d: b c")
STAR = Table.from_lines("a: b d c", "b: a c d", "c: a d b", "d: a b c")
TABLES = (FLAT, TWIST, STAR) + tuple(Table.plain(web) for web in WEBS + (ODD,))
# Two rings with one place in common, where they touch or cross.
TOUCH = Table.from_lines("a: b c d e", "b: a c", "c: a b", "d: a e", "e: a d")
CROSS = Table.from_lines("a: b d c e", "b: a c", "c: a b", "d: a e", "e: a d")
# Drawings of held webs: a wheel, a prism, the one whose rims are twelve, and one with nine rims.
WHEEL = Table.from_lines("a: b e d", "b: a c e", "c: b d e", "d: a e c", "e: a b c d")
PRISM = Table.from_lines("a: b d c", "b: a c e", "c: a f b", "d: a e f", "e: b f d", "f: c d e")
OCTA = Table.from_lines("a: b n d s", "b: a s c n", "c: b s d n", "d: a n c s", "n: a b c d", "s: a d c b")
HELD = Table.from_lines(
    "a: d h e", "b: d f i", "c: d i g h", "d: a f b i c", "e: a g f", "f: b d e i", "g: c e h", "h: a c g", "i: b f c d"
)
# Places that are called like rims.
RIMMED = STAR.renamed({"a": "rb", "b": "ra", "c": "rd", "d": "r"})

# Values that are neither a name nor a tie nor a web nor an integer, nor anything else of this package.
STRANGE = (
    None,
    True,
    False,
    10 ** 60,
    -(10 ** 99),
    "",
    "A",
    "a b",
    "abcdefghi",
    "a1",
    "a\n",
    "x" * 4000,
    (),
    [],
    {},
    ("a",),
    ["a", "b"],
    ("a", ["b"]),
    ("a", 1),
    ("b", "a"),
    ("a", "a"),
    ("a", "b", "c", 1),
    (("a", "b"),),
    {"a": "b"},
    {(): [{}]},
    ["a", [{"b": [(("c", {}),)]}]],
)
ALL_STRANGE = STRANGE + (RING, (RING, KITE), [FOUR], {"a": RING})
# These are no places of the webs here, whatever else they are.
NO_PLACES = ALL_STRANGE + ("zz", "A", 0, FLAT, Debts.none(KITE))


def tables_of(web, many, seed):
    """Some tables of a web, always the same ones, mostly no drawings."""
    rnd = random.Random(seed)
    told = []
    for _ in range(many):
        rows = {place: web.neighbours(place) for place in web.places}
        told.append(Table(web, {
            place: row[:1] + tuple(rnd.sample(row[1:], len(row) - 1)) for place, row in rows.items()
        }))
    return told


def grown_drawing(places, ties, seed):
    """Some drawing, always the same one, with as many ties as that, if they fit in."""
    rnd = random.Random(seed)
    table = Table.from_lines(f"{places[0]}: {places[1]}", f"{places[1]}: {places[0]}")
    for new in places[2:]:
        near = rnd.choice(table.web.places)
        rounds = {**table.rounds, new: (near,)}
        at = rnd.randint(1, len(rounds[near]))
        row = rounds[near][:at] + (new,) + rounds[near][at:]
        rounds[near] = min(row[k:] + row[:k] for k in range(len(row)))
        table = Table(table.web.with_place(new, near), rounds)
    for _ in range(40 * ties):
        rim = rnd.choice(table.rims)
        k, m = rnd.randrange(len(rim)), rnd.randrange(len(rim))
        if len(table.web.ties) < ties and rim[k] != rim[m] and not table.web.is_tied(rim[k], rim[m]):
            table = table.with_tie(rim[k], rim[k - 1], rim[m], rim[m - 1])
    return table


def debts_with_total(web, total, many, seed, most=3):
    """Some debts of a total, always the same ones."""
    rnd = random.Random(seed)
    told = []
    for _ in range(many):
        debts = Debts(web, {place: rnd.randint(-most, most) for place in web.places})
        told.append(debts + (total - debts.total) * Debts.at(web, rnd.choice(web.places)))
    return told


def joined(places, ties):
    """Whether places hang together along ties, by painting them again and again."""
    found = set(places[:1])
    for _ in places:
        for a, b in ties:
            if a in found or b in found:
                found |= {a, b}
    return bool(places) and found == set(places)


def rings_by_trial(web):
    """All rings from their least places on, found by trying all orders of all places."""
    tied = {(a, b) for a, b in web.ties} | {(b, a) for a, b in web.ties}
    found = []
    for many in range(3, len(web.places) + 1):
        for way in permutations(web.places, many):
            if way[0] == min(way) and all(pair in tied for pair in zip(way, way[1:] + way[:1])):
                found.append(way)
    return sorted(found)
