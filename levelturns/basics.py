"""What several modules need: integers, sides, matches, and who won a match."""


def is_integer(value):
    # A bool is an int to Python, but no integer here.
    return isinstance(value, int) and not isinstance(value, bool)


def is_side(value, n):
    return is_integer(value) and 0 <= value < n


def is_pair_of_sides(value, n):
    """Return whether value is a pair of unlike sides of n."""
    if not isinstance(value, tuple) or len(value) != 2:
        return False
    a, b = value
    return is_side(a, n) and is_side(b, n) and a != b


def matches(n):
    """Return all matches of n sides, ascending."""
    return [(a, b) for a in range(n) for b in range(a + 1, n)]


def match_of(a, b):
    """Return the match of two sides: the pair of both, the lesser one first."""
    return (min(a, b), max(a, b))


def winner_first(league, a, b):
    """Return the two sides, the one that won their match first."""
    return (a, b) if b in league[a] else (b, a)


def lead(league, a, b):
    """Return how many more wins the one of both that won their match has than the other one."""
    winner, loser = winner_first(league, a, b)
    return len(league[winner]) - len(league[loser])
