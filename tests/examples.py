"""The examples of the document, just as they stand, under the promises that print them."""

# What a row raises is written "raises", and the error as it is made.
EXAMPLES = {
    "A5": r"""
    >>> from levelturns.leagues import beat, contrary, league_error, renamed, turned, wins
    >>> circle, steps, four = ((1,), (2,), (0,)), ((1, 2), (2,), ()), ((1, 3), (2,), (0, 3), (1,))
    >>> [league_error(value) for value in (circle, steps, four, ((),), (), [(1,), ()], ((),) * 9, None)]
    [None, None, None, None, 'form', 'form', 'form', 'form']
    >>> [league_error(value) for value in (((1,), (0,)), ((), ()), ((1, 2), (2,), (0,)), ((2, 1), (2,), ()), ((1, 1), ()), ((0,), ()), ((True,), ()), ((2,), ()), ((1,), 0))]
    [('match', 0, 1), ('match', 0, 1), ('match', 0, 2), ('side', 0), ('side', 0), ('side', 0), ('side', 0), ('side', 0), ('side', 1)]
    >>> wins(circle), wins(steps), wins(four), [beat(circle, a, b) for a, b in ((0, 1), (1, 0), (2, 0), (2, 2))]
    ((1, 1, 1), (2, 1, 0), (2, 1, 2, 1), [True, False, True, False])
""",
    "A6": r"""
    >>> turned(circle, 0, 1), turned(circle, 1, 0) == turned(circle, 0, 1), turned(turned(circle, 0, 1), 0, 1) == circle
    (((), (0, 2), (0,)), True, True)
    >>> renamed(steps, (2, 0, 1)), renamed(circle, (1, 2, 0)) == circle, contrary(steps), contrary(circle)
    (((), (0, 2), (0,)), True, ((), (0,), (0, 1)), ((2,), (0,), (1,)))
""",
    "A7": r"""
    >>> from levelturns.rankings import order_error, order_of, ranking
    >>> [order_error(3, value) for value in ((2, 0, 1), (0, 1), [0, 1, 2], (0, 1, 3), (0, True, 2), (0, 1, 1), (1, 1, 3), (0, 1, 2, 0))]
    [None, 'form', 'form', ('side', 2), ('side', 1), ('twice', 2), ('side', 2), 'form']
    >>> ranking((0, 1, 2)) == steps, ranking((2, 0, 1)), order_of(steps), order_of(circle), order_of(ranking((2, 0, 3, 1))), order_of(((),))
    (True, ((1,), (), (0, 1)), (0, 1, 2), None, (2, 0, 3, 1), (0,))
""",
    "A8": r"""
    >>> from levelturns.leaguetexts import league_text, read_league
    >>> league_text(circle), league_text(steps), league_text(four), league_text(((),))
    ('a:b b:c c:a', 'a:bc b:c c:', 'a:bd b:c c:ad d:b', 'a:')
    >>> read_league("a:b b:c c:a") == circle, read_league("a:bc b:c c:") == steps
    (True, True)
    >>> read_league("a:b b:c")
    raises BadText('a:b b:c')
    >>> read_league("a:cb b:c c:")
    raises BadText('a:cb b:c c:')
    >>> read_league("a:bc b:c c: ")
    raises BadText('a:bc b:c c: ')
    >>> read_league("")
    raises BadText('')
    >>> read_league(None)
    raises BadText(None)
""",
    "B2": r"""
    >>> from levelturns.turns import done, led, open_falls, open_rises, turn_error, turn_kind
    >>> quad = ((1, 2), (2, 3), (3,), (0,))
    >>> turn_kind(circle, 0, 1), turn_kind(circle, 2, 0), turn_kind(steps, 0, 1), turn_kind(steps, 2, 0), turn_kind(quad, 0, 3), turn_kind(quad, 3, 2)
    ('rise', 'rise', 'none', 'fall', 'none', 'rise')
    >>> [turn_error(steps, value) for value in ((0, 2), (0, 1), (2, 0), (0, 3), (0, 0), (0, True), [0, 2], (0, 1, 2), None)]
    [None, 'bar', 'form', 'form', 'form', 'form', 'form', 'form', 'form']
    >>> done(circle, (0, 2)) == steps, done(steps, (0, 2)) == circle, done(quad, (2, 3))
    (True, True, ((1, 2), (2, 3), (), (0, 2)))
    >>> led(steps, ((0, 2), (0, 1))), led(quad, ()) == quad
    (((), (0, 2), (0,)), True)
    >>> done(steps, (0, 1))
    raises Refused((0, 1))
    >>> led(steps, ((0, 2), (0, 1), (0, 2)))
    raises Refused((0, 2))
    >>> led(circle, ((0, 2),) * 101)
    raises TooMany(100)
""",
    "B3": r"""
    >>> open_rises(quad), open_falls(quad), open_rises(circle), open_falls(circle), open_rises(steps), open_falls(steps)
    (((0, 1), (2, 3)), (), ((0, 1), (0, 2), (1, 2)), (), (), ((0, 2),))
    >>> open_rises(((),)), open_falls(((), (0,)))
    ((), ())
""",
    "C2": r"""
    >>> from levelturns.rings import ring_change, ring_count, rings, rings_with
    >>> crossed, spin = ((1, 2), (2, 3), (3,), (0,)), ((1, 2), (2, 3), (3, 4), (0, 4), (0, 1))
    >>> rings(crossed), ring_count(crossed), [rings_with(crossed, side) for side in range(4)]
    (((0, 1, 3), (0, 2, 3)), 2, [2, 1, 1, 2])
    >>> rings(spin), ring_count(spin), rings_with(spin, 2)
    (((0, 1, 3), (0, 2, 3), (0, 2, 4), (1, 2, 4), (1, 3, 4)), 5, 3)
    >>> rings(((2,), (0,), (1,))), rings(((1, 2), (2,), ())), ring_count(((),)), rings(((1,), ()))
    (((0, 2, 1),), (), 0, ())
    >>> ring_change(crossed, 0, 1), ring_change(crossed, 1, 0), ring_change(crossed, 0, 3), ring_change(crossed, 2, 0), ring_change(((1, 2), (2,), ()), 0, 2)
    (-1, -1, -2, 0, 1)
""",
    "D2": r"""
    >>> from levelturns.signs import joined, order_sign, sign, way
    >>> back = contrary(circle)
    >>> [sign(league) for league in (circle, back, steps, ranking((1, 0, 2)), ranking((1, 2, 0)), ((),), ((1,), ()), ((), (0,)))]
    [0, 1, 0, 1, 0, 0, 0, 1]
    >>> [order_sign(order) for order in ((0, 1, 2), (1, 0, 2), (1, 2, 0), (2, 1, 0), (0,))]
    [0, 1, 0, 1, 0]
    >>> joined(circle, steps), joined(circle, back), joined(((1,), ()), ((), (0,))), joined(steps, steps)
    (True, False, False, True)
    >>> sign(turned(steps, 0, 2)), sign(turned(steps, 0, 1)), sign(renamed(circle, (1, 0, 2))), renamed(circle, (1, 0, 2)) == back
    (0, 1, 1, True)
""",
    "D3": r"""
    >>> from levelturns.turns import led
    >>> led(circle, way(circle, steps)) == steps, led(steps, way(steps, steps)) == steps, len(way(ranking((0, 1, 2, 3)), ranking((1, 2, 0, 3)))) > 1
    (True, True, True)
    >>> crown = ((1, 3), (2, 3), (0, 3), ())
    >>> led(crown, way(crown, ranking((2, 0, 1, 3)))) == ranking((2, 0, 1, 3)), led(crown, ((0, 1),)) == ranking((1, 2, 0, 3))
    (True, True)
    >>> way(circle, back)
    raises Unfit()
""",
    "D4": r"""
    >>> from levelturns.joinpapers import paper, paper_error
    >>> paper(circle, back), paper(((1,), ()), ((), (0,))), paper(circle, steps)[0], paper_error(circle, steps, paper(circle, steps))
    (('apart', 3, 1, 1), ('apart', 1, 0, 0), 'way', None)
    >>> [paper_error(circle, steps, value) for value in (("way", ((0, 2),)), ("way", ()), ("way", ((2, 0),)), ("way", [(0, 2)]), ("apart", 1, 1, 0), ("apart", 1, 1, 1), ("way",), ["way", ((0, 2),)], None)]
    [None, 'way', 'way', 'way', 'apart', 'apart', 'form', 'form', 'form']
    >>> [paper_error(circle, back, value) for value in (("apart", 3, 1, 1), ("apart", 3, True, 1), ("apart", 1, 1, 1), ("apart", 3, 1), ("way", ((0, 1), (0, 2), (1, 2))))]
    [None, 'apart', 'apart', 'form', 'way']
""",
    "E2": r"""
    >>> from levelturns.risings import next_counts, row_at, row_count, row_number
    >>> [row_count(league) for league in (circle, steps, crown, quad, ((),))], next_counts(circle), next_counts(quad), next_counts(steps)
    ([3, 1, 3, 6, 1], (((0, 1), 1), ((0, 2), 1), ((1, 2), 1)), (((0, 1), 3), ((2, 3), 3)), ())
    >>> row_count(spin), [number for turn, number in next_counts(spin)]
    (360, [36, 36, 36, 36, 36, 36, 36, 36, 36, 36])
""",
    "E3": r"""
    >>> [row_at(quad, number) for number in (0, 2, 3, 5)], [row_number(quad, row_at(quad, number)) for number in range(6)]
    ([((0, 1), (0, 2)), ((0, 1), (2, 3)), ((2, 3), (0, 1)), ((2, 3), (1, 3))], [0, 1, 2, 3, 4, 5])
    >>> row_at(steps, 0), row_number(steps, ()), row_number(circle, ((1, 2),)), len(row_at(spin, 359))
    ((), 0, 2, 5)
    >>> row_at(circle, 3)
    raises Unfit()
    >>> row_at(circle, True)
    raises Unfit()
    >>> row_number(circle, ())
    raises Unfit()
    >>> row_number(circle, ((0, 1), (0, 2)))
    raises Unfit()
""",
}
