"""Halves that the tests share, and what goes with them, told by plain means of the tests' own."""

from itertools import product

from tests.samples import all_leagues, league_numbered, pairs, ranked, round_league


def all_halves(n):
    """Return all halves of n sides: each match is open, or the one or the other side won it."""
    choices = [[None, (a, b), (b, a)] for a, b in pairs(n)]
    return [(n, tuple(sorted(pair for pair in row if pair))) for row in product(*choices)]


def opened(league, matches):
    """Return the half that tells all matches of league but these."""
    n = len(league)
    told = [(a, b) if b in league[a] else (b, a) for a, b in pairs(n) if (a, b) not in matches]
    return (n, tuple(sorted(told)))


def some_halves(n):
    """Return halves of n sides with as many open matches as there may be, from none to all."""
    found, matches = [], pairs(n)
    bases = [ranked(range(n)), ranked(range(n)[::-1]), round_league(n)]
    bases += [league_numbered(n, (k * 7919 + k * k * 104729) % 2 ** len(matches)) for k in (1, 2, 3)]
    for at, base in enumerate(bases):
        for many in range(len(matches) + 1):
            # A mixed row of all matches: no step that is taken shares a divisor with how many there are.
            mixed = [matches[(7 * at + k * 11) % len(matches)] for k in range(len(matches))]
            found.append(opened(base, mixed[:many]))
    return found


def open_matches(half):
    n, won = half
    return [(a, b) for a, b in pairs(n) if not {(a, b), (b, a)} & set(won)]


def goes_with(league, half):
    n, won = half
    return len(league) == n and all(b in league[a] for a, b in won)


def leagues_with(half):
    """Return all leagues that go with half: those of few sides, or of few open matches."""
    n, won = half
    free, found = open_matches(half), []
    if n < 5:
        return [league for league in all_leagues(n) if goes_with(league, half)]
    for winners in product(*free):
        told = set(won) | {(winner, a + b - winner) for (a, b), winner in zip(free, winners)}
        found.append(tuple(tuple(b for b in range(n) if (a, b) in told) for a in range(n)))
    return found


def uneven_pairs(half, league):
    """Return the pairs (a, b) such that open matches, each won by the side ahead, lead from a to b, which has
    at least two wins fewer; ascending."""
    n, free = half[0], open_matches(half)
    leads = {(a, b) for a in range(n) for b in league[a] if (min(a, b), max(a, b)) in free}
    while True:
        further = {(a, d) for a, b in leads for c, d in leads if b == c} - leads
        if not further:
            break
        leads |= further
    return sorted((a, b) for a, b in leads if len(league[a]) >= len(league[b]) + 2)


FEW = [half for n in range(1, 4) for half in all_halves(n)]
FOUR = all_halves(4)
MANY = [half for n in range(2, 9) for half in some_halves(n)]
