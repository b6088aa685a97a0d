"""Books that the tests share, and the words of the document that are asked for."""

from tests.samples import all_leagues, ranked, round_league, some_leagues

WORDS = (
    "ask", "differ", "ends", "far", "joined", "league", "low", "open", "order", "rings", "row", "rows", "sign",
    "sure", "wins",
)
OF_ONE = ("wins", "rings", "sign", "rows", "ends", "sure", "low", "open")
OF_TWO = ("joined", "far", "differ")

CIRCLE, STEPS, FOUR = ((1,), (2,), (0,)), ((1, 2), (2,), ()), ((1, 3), (2,), (0, 3), (1,))
LEAGUES = (("cup", CIRCLE), ("flat", STEPS), ("quad", FOUR))
ORDERS = (("goal", (1, 2, 0)), ("up", (3, 1, 0, 2)))
ASKS = (("wins", "cup"), ("joined", "cup", "flat"), ("row", "cup", "goal"), ("row", "quad", "up"))
BOOK = (LEAGUES, ORDERS, ASKS)
EMPTY = ((), (), ())


def name_at(k):
    """Return the k-th of many unlike names."""
    return "n" + "abcdefghij"[k // 10 % 10] + "abcdefghij"[k % 10]


def questions_on(leagues, orders):
    """Return all questions that may be asked of these."""
    found = [(word, name) for word in OF_ONE for name, _ in leagues]
    for word in OF_TWO:
        found += [(word, one, other) for one, a in leagues for other, b in leagues if len(a) == len(b)]
    return found + [("row", name, goal) for name, a in leagues for goal, b in orders if len(a) == len(b)]


def full_book(leagues, orders=()):
    """Return a book with these, named one behind another, and as many of the questions as it may hold, spread."""
    named = tuple((name_at(k), league) for k, league in enumerate(leagues))
    goals = tuple((name_at(k + 50), order) for k, order in enumerate(orders))
    asks = questions_on(named, goals)
    return (named, goals, tuple(asks[::max(1, len(asks) // 30)][:30]))


BOOKS = [
    EMPTY, BOOK, (LEAGUES, (), ()), ((), ORDERS, ()), (LEAGUES, (), ASKS[:2]),
    ((("a", ((),)),), (("b", (0,)),), (("row", "a", "b"), ("wins", "a"), ("joined", "a", "a"))),
    full_book(all_leagues(3), [(0, 1, 2), (2, 0, 1)]), full_book(all_leagues(4)[:26], [(3, 2, 1, 0)] * 4),
    full_book([round_league(n) for n in range(1, 9)], [tuple(range(n)) for n in range(1, 9)]),
    full_book(some_leagues(8)[:20], [tuple(range(8))] * 10), full_book(some_leagues(5)[:30]),
    full_book([ranked(range(8))] * 30), full_book([], [tuple(range(8))[::-1]] * 30),
]
