"""The examples of the document, just as they stand, under the promises that print them."""

# What a row raises is written "raises", and the error as it is made.
EXAMPLES = {
    "A5": r"""
    >>> from levelturns.leagues import beat, contrary, league_error, renamed, turned, wins
    >>> circle, steps, four = ((1,), (2,), (0,)), ((1, 2), (2,), ()), ((1, 3), (2,), (0, 3), (1,))
    >>> [league_error(value) for value in (circle, steps, four, ((),), (), [(1,), ()], ((),) * 9, None)]
    [None, None, None, None, 'form', 'form', 'form', 'form']
    >>> [league_error(value) for value in (((1,), (0,)), ((), ()), ((1, 2), (2,), (0,)), ((2, 1), (2,), ()), ((1, 1), ()), ((0,), ()), ((True,), ()), ((2,), ()), ((1,), 0))]
    [('match', 0, 1), ('match', 0, 1), ('match', 0, 2), ('side', 0), ('side', 0), ('side', 0), ('side', 0), ('side', 0), ('side', 1)]
    >>> wins(circle), wins(steps), wins(four), [beat(circle, a, b) for a, b in ((0, 1), (1, 0), (2, 0), (2, 2))]
    ((1, 1, 1), (2, 1, 0), (2, 1, 2, 1), [True, False, True, False])
""",
    "A6": r"""
    >>> turned(circle, 0, 1), turned(circle, 1, 0) == turned(circle, 0, 1), turned(turned(circle, 0, 1), 0, 1) == circle
    (((), (0, 2), (0,)), True, True)
    >>> renamed(steps, (2, 0, 1)), renamed(circle, (1, 2, 0)) == circle, contrary(steps), contrary(circle)
    (((), (0, 2), (0,)), True, ((), (0,), (0, 1)), ((2,), (0,), (1,)))
""",
}
