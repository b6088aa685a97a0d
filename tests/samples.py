"""Leagues and values that the tests share, made without the package."""

from itertools import combinations, permutations


def pairs(n):
    return list(combinations(range(n), 2))


def league_numbered(n, number):
    """Return the league in which the greater side won the k-th match exactly if bit k of number is set."""
    beaten = [[] for _ in range(n)]
    for k, (a, b) in enumerate(pairs(n)):
        if number >> k & 1:
            beaten[b].append(a)
        else:
            beaten[a].append(b)
    return tuple(tuple(sorted(row)) for row in beaten)


def all_leagues(n):
    return [league_numbered(n, number) for number in range(2 ** len(pairs(n)))]


def all_orders(n):
    return list(permutations(range(n)))


def some_orders(n):
    """Return orders that are not each their own way back, the plain and the turned about one too."""
    plain = tuple(range(n))
    return [plain, plain[::-1], plain[1:] + plain[:1], plain[2:] + plain[:2][::-1], plain[::2] + plain[1::2]]


def ranked(order):
    """Return the ranking of order."""
    places = {side: place for place, side in enumerate(order)}
    return tuple(
        tuple(b for b in range(len(order)) if places[b] > places[a]) for a in range(len(order))
    )


def round_league(n):
    """Return a league in which each side beat about half of the others, those next to it."""
    beaten = [[] for _ in range(n)]
    for a, b in pairs(n):
        winner, loser = (a, b) if 2 * (b - a) <= n else (b, a)
        beaten[winner].append(loser)
    return tuple(tuple(sorted(row)) for row in beaten)


def some_leagues(n):
    """Return leagues of all sorts, of five sides to eight."""
    many = 2 ** len(pairs(n))
    spread = [league_numbered(n, (k * 40503 + 977 * k * k * k + 5 * k) % many) for k in range(40)]
    return spread + [ranked(order) for order in some_orders(n)] + [round_league(n)]


SMALL = [league for n in range(1, 5) for league in all_leagues(n)]
LARGE = [league for n in range(5, 9) for league in some_leagues(n)]
LEAGUES = SMALL + LARGE
# Leagues with orders by which to rename their sides.
RENAMINGS = [(league, order) for league in SMALL for order in all_orders(len(league))] + [
    (league, order) for league in LARGE for order in some_orders(len(league))
]


def deep(kind, depth):
    value = kind
    for _ in range(depth):
        value = (value,)
    return value


# Values of every kind that is no league, no order, no turn and no text of a league.
ODD_VALUES = [
    None, True, False, 0, 1, -1, 10 ** 399, -10 ** 399,
    "", " ", "a", "form", "\n", "a:b b:c c:a\n", "x" * 20000, "a: " * 6000, " " * 20000,
    [], {}, [((1,), ())], [0, 1], [(1,), ()], {"a": 1}, {0: (1,), 1: ()}, {(0, 1): True}, [[[]]],
    ((1,), [0]), ({}, {}), (None, None), ("a", "b"), (0, 0), (True, False), (0, True),
    ((True,), ()), ((1,), (False,)), ((1.5,), ()), (((1,),), ()), (((),),), ("",),
    deep((), 18), deep([0], 18), (0,) * 4000, ((),) * 4000, ((0,) * 3999,), tuple(range(4000)), list(range(3999)),
]
