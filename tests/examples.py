"""The examples of the document, just as they stand, under the promises that print them."""

# What a row raises is written "raises", and the error as it is made.
EXAMPLES = {
    "A5": r"""
    >>> from levelturns.leagues import beat, contrary, league_error, renamed, turned, wins
    >>> circle, steps, four = ((1,), (2,), (0,)), ((1, 2), (2,), ()), ((1, 3), (2,), (0, 3), (1,))
    >>> [league_error(value) for value in (circle, steps, four, ((),), (), [(1,), ()], ((),) * 9, None)]
    [None, None, None, None, 'form', 'form', 'form', 'form']
    >>> [league_error(value) for value in (((1,), (0,)), ((), ()), ((1, 2), (2,), (0,)), ((2, 1), (2,), ()), ((1, 1), ()), ((0,), ()), ((True,), ()), ((2,), ()), ((1,), 0))]
    [('match', 0, 1), ('match', 0, 1), ('match', 0, 2), ('side', 0), ('side', 0), ('side', 0), ('side', 0), ('side', 0), ('side', 1)]
    >>> wins(circle), wins(steps), wins(four), [beat(circle, a, b) for a, b in ((0, 1), (1, 0), (2, 0), (2, 2))]
    ((1, 1, 1), (2, 1, 0), (2, 1, 2, 1), [True, False, True, False])
""",
    "A6": r"""
    >>> turned(circle, 0, 1), turned(circle, 1, 0) == turned(circle, 0, 1), turned(turned(circle, 0, 1), 0, 1) == circle
    (((), (0, 2), (0,)), True, True)
    >>> renamed(steps, (2, 0, 1)), renamed(circle, (1, 2, 0)) == circle, contrary(steps), contrary(circle)
    (((), (0, 2), (0,)), True, ((), (0,), (0, 1)), ((2,), (0,), (1,)))
""",
    "A7": r"""
    >>> from levelturns.rankings import order_error, order_of, ranking
    >>> [order_error(3, value) for value in ((2, 0, 1), (0, 1), [0, 1, 2], (0, 1, 3), (0, True, 2), (0, 1, 1), (1, 1, 3), (0, 1, 2, 0))]
    [None, 'form', 'form', ('side', 2), ('side', 1), ('twice', 2), ('side', 2), 'form']
    >>> ranking((0, 1, 2)) == steps, ranking((2, 0, 1)), order_of(steps), order_of(circle), order_of(ranking((2, 0, 3, 1))), order_of(((),))
    (True, ((1,), (), (0, 1)), (0, 1, 2), None, (2, 0, 3, 1), (0,))
""",
    "A8": r"""
    >>> from levelturns.leaguetexts import league_text, read_league
    >>> league_text(circle), league_text(steps), league_text(four), league_text(((),))
    ('a:b b:c c:a', 'a:bc b:c c:', 'a:bd b:c c:ad d:b', 'a:')
    >>> read_league("a:b b:c c:a") == circle, read_league("a:bc b:c c:") == steps
    (True, True)
    >>> read_league("a:b b:c")
    raises BadText('a:b b:c')
    >>> read_league("a:cb b:c c:")
    raises BadText('a:cb b:c c:')
    >>> read_league("a:bc b:c c: ")
    raises BadText('a:bc b:c c: ')
    >>> read_league("")
    raises BadText('')
    >>> read_league(None)
    raises BadText(None)
""",
    "B2": r"""
    >>> from levelturns.turns import done, led, open_falls, open_rises, turn_error, turn_kind
    >>> quad = ((1, 2), (2, 3), (3,), (0,))
    >>> turn_kind(circle, 0, 1), turn_kind(circle, 2, 0), turn_kind(steps, 0, 1), turn_kind(steps, 2, 0), turn_kind(quad, 0, 3), turn_kind(quad, 3, 2)
    ('rise', 'rise', 'none', 'fall', 'none', 'rise')
    >>> [turn_error(steps, value) for value in ((0, 2), (0, 1), (2, 0), (0, 3), (0, 0), (0, True), [0, 2], (0, 1, 2), None)]
    [None, 'bar', 'form', 'form', 'form', 'form', 'form', 'form', 'form']
    >>> done(circle, (0, 2)) == steps, done(steps, (0, 2)) == circle, done(quad, (2, 3))
    (True, True, ((1, 2), (2, 3), (), (0, 2)))
    >>> led(steps, ((0, 2), (0, 1))), led(quad, ()) == quad
    (((), (0, 2), (0,)), True)
    >>> done(steps, (0, 1))
    raises Refused((0, 1))
    >>> led(steps, ((0, 2), (0, 1), (0, 2)))
    raises Refused((0, 2))
    >>> led(circle, ((0, 2),) * 101)
    raises TooMany(100)
""",
    "B3": r"""
    >>> open_rises(quad), open_falls(quad), open_rises(circle), open_falls(circle), open_rises(steps), open_falls(steps)
    (((0, 1), (2, 3)), (), ((0, 1), (0, 2), (1, 2)), (), (), ((0, 2),))
    >>> open_rises(((),)), open_falls(((), (0,)))
    ((), ())
""",
    "C2": r"""
    >>> from levelturns.rings import ring_change, ring_count, rings, rings_with
    >>> crossed, spin = ((1, 2), (2, 3), (3,), (0,)), ((1, 2), (2, 3), (3, 4), (0, 4), (0, 1))
    >>> rings(crossed), ring_count(crossed), [rings_with(crossed, side) for side in range(4)]
    (((0, 1, 3), (0, 2, 3)), 2, [2, 1, 1, 2])
    >>> rings(spin), ring_count(spin), rings_with(spin, 2)
    (((0, 1, 3), (0, 2, 3), (0, 2, 4), (1, 2, 4), (1, 3, 4)), 5, 3)
    >>> rings(((2,), (0,), (1,))), rings(((1, 2), (2,), ())), ring_count(((),)), rings(((1,), ()))
    (((0, 2, 1),), (), 0, ())
    >>> ring_change(crossed, 0, 1), ring_change(crossed, 1, 0), ring_change(crossed, 0, 3), ring_change(crossed, 2, 0), ring_change(((1, 2), (2,), ()), 0, 2)
    (-1, -1, -2, 0, 1)
""",
    "D2": r"""
    >>> from levelturns.signs import joined, order_sign, sign, way
    >>> back = contrary(circle)
    >>> [sign(league) for league in (circle, back, steps, ranking((1, 0, 2)), ranking((1, 2, 0)), ((),), ((1,), ()), ((), (0,)))]
    [0, 1, 0, 1, 0, 0, 0, 1]
    >>> [order_sign(order) for order in ((0, 1, 2), (1, 0, 2), (1, 2, 0), (2, 1, 0), (0,))]
    [0, 1, 0, 1, 0]
    >>> joined(circle, steps), joined(circle, back), joined(((1,), ()), ((), (0,))), joined(steps, steps)
    (True, False, False, True)
    >>> sign(turned(steps, 0, 2)), sign(turned(steps, 0, 1)), sign(renamed(circle, (1, 0, 2))), renamed(circle, (1, 0, 2)) == back
    (0, 1, 1, True)
""",
    "D3": r"""
    >>> from levelturns.turns import led
    >>> led(circle, way(circle, steps)) == steps, led(steps, way(steps, steps)) == steps, len(way(ranking((0, 1, 2, 3)), ranking((1, 2, 0, 3)))) > 1
    (True, True, True)
    >>> crown = ((1, 3), (2, 3), (0, 3), ())
    >>> led(crown, way(crown, ranking((2, 0, 1, 3)))) == ranking((2, 0, 1, 3)), led(crown, ((0, 1),)) == ranking((1, 2, 0, 3))
    (True, True)
    >>> way(circle, back)
    raises Unfit()
""",
    "D4": r"""
    >>> from levelturns.joinpapers import paper, paper_error
    >>> paper(circle, back), paper(((1,), ()), ((), (0,))), paper(circle, steps)[0], paper_error(circle, steps, paper(circle, steps))
    (('apart', 3, 1, 1), ('apart', 1, 0, 0), 'way', None)
    >>> [paper_error(circle, steps, value) for value in (("way", ((0, 2),)), ("way", ()), ("way", ((2, 0),)), ("way", [(0, 2)]), ("apart", 1, 1, 0), ("apart", 1, 1, 1), ("way",), ["way", ((0, 2),)], None)]
    [None, 'way', 'way', 'way', 'apart', 'apart', 'form', 'form', 'form']
    >>> [paper_error(circle, back, value) for value in (("apart", 3, 1, 1), ("apart", 3, True, 1), ("apart", 1, 1, 1), ("apart", 3, 1), ("way", ((0, 1), (0, 2), (1, 2))))]
    [None, 'apart', 'apart', 'form', 'way']
""",
    "E2": r"""
    >>> from levelturns.risings import next_counts, row_at, row_count, row_number
    >>> [row_count(league) for league in (circle, steps, crown, quad, ((),))], next_counts(circle), next_counts(quad), next_counts(steps)
    ([3, 1, 3, 6, 1], (((0, 1), 1), ((0, 2), 1), ((1, 2), 1)), (((0, 1), 3), ((2, 3), 3)), ())
    >>> row_count(spin), [number for turn, number in next_counts(spin)]
    (360, [36, 36, 36, 36, 36, 36, 36, 36, 36, 36])
""",
    "E3": r"""
    >>> [row_at(quad, number) for number in (0, 2, 3, 5)], [row_number(quad, row_at(quad, number)) for number in range(6)]
    ([((0, 1), (0, 2)), ((0, 1), (2, 3)), ((2, 3), (0, 1)), ((2, 3), (1, 3))], [0, 1, 2, 3, 4, 5])
    >>> row_at(steps, 0), row_number(steps, ()), row_number(circle, ((1, 2),)), len(row_at(spin, 359))
    ((), 0, 2, 5)
    >>> row_at(circle, 3)
    raises Unfit()
    >>> row_at(circle, True)
    raises Unfit()
    >>> row_number(circle, ())
    raises Unfit()
    >>> row_number(circle, ((0, 1), (0, 2)))
    raises Unfit()
""",
    "F2": r"""
    >>> from levelturns.kept import ahead_row, covers, kept_row
    >>> from levelturns.rankings import order_of
    >>> [covers(quad, a, b) for a, b in ((1, 2), (0, 1), (0, 2), (2, 3), (3, 0), (2, 1))], covers(steps, 0, 2), covers(steps, 2, 0)
    ([True, False, False, False, False, False], True, False)
    >>> [kept_row(quad, side) for side in (0, 2, 3)], kept_row(circle, 1), kept_row(steps, 2)
    ([((2, 3), (1, 3)), ((0, 1), (0, 3)), ((0, 1), (0, 2))], ((0, 2),), ())
    >>> ahead_row(quad, 3, 1), ahead_row(quad, 2, 3) in (((0, 1), (0, 2)), ((0, 1), (0, 3))), ahead_row(circle, 1, 0), ahead_row(steps, 0, 2)
    (((2, 3), (1, 3)), True, ((0, 1),), ())
    >>> ahead_row(quad, 2, 1)
    raises Unfit()
    >>> order = order_of(led(spin, kept_row(spin, 3)))
    >>> order[2], sorted(order[3:]), order_of(led(spin, ahead_row(spin, 4, 2))).index(4) < order_of(led(spin, ahead_row(spin, 4, 2))).index(2)
    (3, [0, 4], True)
""",
    "F3": r"""
    >>> from levelturns.reached import cheapest, ends, row_to, sure
    >>> ends(circle), ends(steps), ends(quad)
    (((0, 1, 2), (1, 2, 0), (2, 0, 1)), ((0, 1, 2),), ((0, 1, 3, 2), (1, 0, 2, 3), (1, 2, 3, 0), (1, 3, 0, 2), (3, 0, 1, 2)))
    >>> [row_to(quad, order) for order in ends(quad)], row_to(steps, (0, 1, 2))
    ([((2, 3), (0, 3)), ((0, 1), (0, 3)), ((0, 1), (0, 2)), ((0, 1), (2, 3)), ((2, 3), (1, 3))], ())
    >>> sure(circle), sure(quad), sure(((1, 2, 3), (2,), (3,), (1,))), sure(steps)
    ((), ((1, 2),), ((0, 1), (0, 2), (0, 3)), ((0, 1), (0, 2), (1, 2)))
    >>> cheapest(quad, (1, 2, 3, 4, 5, 6)), cheapest(quad, (9, 0, 0, 0, 0, 1)), cheapest(quad, (0,) * 6), cheapest(circle, (5, 3, 9)), cheapest(steps, (1, 1, 1))
    ((3, ((0, 1), (0, 2))), (1, ((2, 3), (0, 3))), (0, ((0, 1), (0, 2))), (3, ((0, 2),)), (0, ()))
    >>> len(ends(spin)), sure(spin), cheapest(spin, (0, 9, 0, 9, 9, 9, 9, 9, 9, 9))
    (45, (), (18, ((0, 3), (1, 4), (0, 1), (0, 2), (0, 3))))
    >>> row_to(quad, (0, 1, 2, 3))
    raises Unfit()
    >>> ends(ranking((0, 1, 2, 3, 4, 5)))
    raises TooMany(5)
""",
    "G2": r"""
    >>> from levelturns.nearest import differing, direct_way, distance, nearest_way
    >>> from levelturns.rankings import ranking
    >>> differing(circle, steps), differing(steps, ranking((1, 2, 0))), differing(quad, quad)
    (((0, 2),), ((0, 1), (0, 2)), ())
    >>> direct_way(circle, steps), direct_way(steps, ranking((1, 2, 0))), direct_way(quad, quad), direct_way(steps, ranking((1, 0, 2)))
    (((0, 2),), ((0, 2), (0, 1)), (), None)
    >>> direct_way(quad, ranking((0, 1, 3, 2))), direct_way(quad, ranking((0, 2, 1, 3)))
    (((2, 3), (0, 3)), None)
    >>> direct_way(ranking((0, 1, 2, 3, 4)), ranking((4, 3, 2, 1, 0)))
    raises TooMany(8)
""",
    "G3": r"""
    >>> from levelturns.turns import led
    >>> distance(circle, steps), distance(steps, ranking((1, 2, 0))), distance(quad, quad), nearest_way(steps, ranking((1, 2, 0)))
    (1, 2, 0, ((0, 2), (0, 1)))
    >>> first, second = ranking((0, 1, 2, 3)), ranking((1, 0, 3, 2))
    >>> differing(first, second), direct_way(first, second), distance(first, second), led(first, nearest_way(first, second)) == second
    (((0, 1), (2, 3)), None, 4, True)
    >>> distance(quad, ranking((0, 2, 1, 3))), distance(quad, ranking((1, 2, 3, 0)))
    (4, 2)
    >>> distance(steps, ranking((1, 0, 2)))
    raises Unfit()
    >>> distance(quad, first)
    raises Unfit()
    >>> nearest_way(ranking((0, 1, 2, 3, 4)), ranking((0, 1, 2, 3, 4)))
    raises TooMany(4)
""",
    "H2": r"""
    >>> from levelturns.leagues import wins
    >>> from levelturns.tables import all_tables, count_with, league_with, most_rings, rises_of, table_error, table_rings, table_rows, with_rings
    >>> [table_error(value) for value in ((1, 1, 1), (0, 2, 1), (2, 1, 1, 2), (0,), (), [1, 1, 1], (1, 1, 3), (1, True, 1))]
    [None, None, None, None, 'form', 'form', ('item', 2), ('item', 1)]
    >>> [table_error(value) for value in ((0, 0, 3, 3), (1, 1, 0), (1, 1, 1, 1), (0, 0, 0), (2, 2, 1), (2, 2, 2, 2))]
    [('least', 2), ('least', 3), ('least', 4), ('least', 2), 'sum', 'sum']
    >>> [wins(league_with(table)) for table in ((1, 1, 1), (2, 1, 1, 2), (0, 2, 1))], league_with((0, 2, 1)) == ranking((1, 2, 0))
    ([(1, 1, 1), (2, 1, 1, 2), (0, 2, 1)], True)
    >>> [count_with(table) for table in ((0,), (1, 1, 1), (0, 2, 1), (2, 1, 1, 2), (1, 1, 1, 3), (2, 2, 2, 2, 2), (4, 4, 4, 4, 3, 3, 3, 3))]
    [1, 2, 1, 4, 2, 24, 46144]
""",
    "H3": r"""
    >>> all_tables(1), all_tables(3), all_tables(4), [len(all_tables(n)) for n in (5, 6, 7, 8)]
    (((0,),), ((0, 1, 2), (1, 1, 1)), ((0, 1, 2, 3), (0, 2, 2, 2), (1, 1, 1, 3), (1, 1, 2, 2)), [9, 22, 59, 167])
    >>> [(table_rings(table), table_rows(table)) for table in ((1, 1, 1), (2, 1, 1, 2), (0, 2, 1), (1, 2, 2, 2, 3), (2, 2, 2, 2, 2))], table_rows((3, 3, 3, 3, 4, 4, 4, 4))
    ([(1, 3), (2, 6), (0, 1), (4, 36), (5, 360)], 893110613760)
    >>> rises_of((1, 1, 1)), rises_of((2, 1, 1, 2)), rises_of((0, 2, 1)), rises_of((2, 2, 2, 2, 2))
    (((0, 1, 2),), ((0, 2, 2, 2), (1, 1, 1, 3)), (), ((1, 2, 2, 2, 3),))
""",
    "H4": r"""
    >>> from levelturns.rings import ring_count
    >>> [most_rings(n) for n in range(1, 9)], [ring_count(with_rings(5, number)) for number in range(6)], ring_count(with_rings(8, 13))
    ([0, 0, 1, 2, 5, 8, 14, 20], [0, 1, 2, 3, 4, 5], 13)
    >>> with_rings(4, 3)
    raises Unfit()
    >>> with_rings(4, True)
    raises Unfit()
    >>> with_rings(1, 0), len(with_rings(2, 0))
    (((),), 2)
""",
    "I2": r"""
    >>> from levelturns.lows import is_low, low_row
    >>> from levelturns.rankings import ranking
    >>> low_row(ranking((0, 1, 2))), low_row(ranking((0, 1, 2, 3))), low_row(ranking((1, 0))), low_row(((),))
    (((0, 2),), ((0, 2), (0, 3)), (), ())
    >>> is_low(ranking((0, 1, 2))), is_low(((1,), (2,), (0,))), is_low(((1,), (2, 3), (0, 3), (0,)))
    (False, True, True)
    >>> near, far = ((1, 2, 3), (2, 4), (3, 4), (1, 4), (0,)), ((1, 2, 4), (2, 4), (3, 4), (0, 1), (3,))
    >>> from levelturns.leagues import wins
    >>> from levelturns.rings import ring_count
    >>> wins(near), wins(far), is_low(near), low_row(far), ring_count(near), ring_count(far)
    ((3, 2, 2, 2, 1), (3, 2, 2, 2, 1), True, ((0, 4),), 4, 4)
""",
    "J2": r"""
    >>> from levelturns.halves import filled, half_error, half_signs, most_error, most_ringed, opens, ring_range
    >>> [half_error(value) for value in ((3, ((0, 1),)), (1, ()), (3, ((1, 0), (2, 0))), (3, ()), (8, ()))]
    [None, None, None, None, None]
    >>> [half_error(value) for value in (3, (3, []), (3, (), ()), (9, ()), (True, ()), (0, ()))]
    ['form', 'form', 'form', 'sides', 'sides', 'sides']
    >>> [half_error((3, won)) for won in (((0, 0),), ((0, 3),), ((0, 1), (1, 0)), ((1, 0), (0, 2)), ((0, 1), (0, 1)), ((0, 1), 2))]
    [('match', 0), ('match', 0), ('match', 1), ('match', 1), ('match', 1), ('match', 1)]
    >>> some = (3, ((0, 1),))
    >>> opens(some), opens((3, ((0, 1), (1, 2), (2, 0)))), filled(some, (0, 1)), filled(some, (2, 1))
    (((0, 2), (1, 2)), (), ((1, 2), (2,), ()), ((1,), (2,), (0,)))
""",
    "J3": r"""
    >>> [most_error(some, value) for value in (((1,), (2,), (0,)), ((1, 2), (2,), ()), ((2,), (0,), (1,)), ((1,), ()), None)]
    [None, ('more', 0, 2), ('match', 0, 1), 'form', 'form']
    >>> most_ringed(some), most_ringed((3, ((0, 1), (0, 2), (1, 2))))
    (((1,), (2,), (0,)), ((1, 2), (2,), ()))
    >>> later = (4, ((0, 2), (0, 3), (1, 3)))
    >>> [most_error(later, value) for value in (((1, 2, 3), (2, 3), (3,), ()), ((2, 3), (0, 3), (1, 3), ()), ((2, 3), (0, 3), (1,), (2,)))]
    [('more', 0, 2), ('more', 2, 3), None]
    >>> from levelturns.rings import ring_count
    >>> [ring_count(most_ringed((n, ()))) for n in (1, 2, 3, 4, 5, 6, 7, 8)]
    [0, 0, 1, 2, 5, 8, 14, 20]
""",
    "J4": r"""
    >>> ring_range(some), half_signs(some), ring_range((4, ())), half_signs((1, ())), half_signs((2, ((1, 0),)))
    ((0, 1), (0, 1), (0, 2), (0,), (1,))
    >>> ring_range((5, ((0, 1), (0, 2)))), ring_range((3, ((0, 1), (1, 2), (2, 0)))), half_signs((4, ((0, 1), (0, 2), (1, 2), (1, 3), (3, 0))))
    ((0, 5), (1, 1), (1,))
    >>> ring_range((5, ((0, 1),)))
    raises TooMany(8)
""",
    "K2": r"""
    >>> from levelturns.books import KEYWORDS, book_error, is_name
    >>> [is_name(value) for value in ("cup", "a", "abcdefgh", "abcdefghi", "", "Cup", "row", "rowx", 5)], KEYWORDS[0], KEYWORDS[-1]
    ([True, True, True, False, False, False, False, True, False], 'ask', 'wins')
    >>> circle, steps, four = ((1,), (2,), (0,)), ((1, 2), (2,), ()), ((1, 3), (2,), (0, 3), (1,))
    >>> leagues, orders = (("cup", circle), ("flat", steps), ("quad", four)), (("goal", (1, 2, 0)),)
    >>> some = (("wins", "cup"), ("joined", "cup", "flat"), ("row", "cup", "goal"), ("row", "flat", "goal"))
    >>> [book_error(value) for value in ((leagues, orders, some), ((), (), ()), (leagues, orders), (leagues + leagues[:1], orders, ()), (leagues, (("cup", (0,)),), ()))]
    [None, None, 'form', ('league', 3), ('order', 0)]
    >>> [book_error((leagues, orders, (ask,))) for ask in (("far", "cup", "quad"), ("wins", "goal"), ("wins",), ("row", "quad", "goal"), ["wins", "cup"], ("sign", "cup", "cup"))]
    [('ask', 0), ('ask', 0), ('ask', 0), ('ask', 0), ('ask', 0), ('ask', 0)]
    >>> book_error((leagues, orders, (("sign", "cup"),) * 31)), book_error(((("wins", circle),), orders, ()))
    ('many', ('league', 0))
""",
    "K3": r"""
    >>> from levelturns.booktexts import book_text, read_book
    >>> book = (leagues[:2], orders, some[:3])
    >>> book_text(book)
    'league cup a:b b:c c:a\nleague flat a:bc b:c c:\norder goal bca\nask wins cup\nask joined cup flat\nask row cup goal'
    >>> read_book(book_text(book)) == book, read_book(""), book_text(((), (), ())) == ""
    (True, ((), (), ()), True)
    >>> read_book("order up ba\nleague x a:b b:\nask row x up\nleague y a: b:a")
    ((('x', ((1,), ())), ('y', ((), (0,)))), (('up', (1, 0)),), (('row', 'x', 'up'),))
    >>> read_book("league x a:b b:\nask sign y\nleague y a: b:a")
    raises BadLine(1)
    >>> read_book("league x a:b b:\n")
    raises BadLine(1)
    >>> read_book("league x a:b b:\norder x ab")
    raises BadLine(1)
    >>> read_book("order x aab")
    raises BadLine(0)
    >>> read_book(7)
    raises BadLine(-1)
""",
    "K4": r"""
    >>> from levelturns.answers import answered
    >>> answered((leagues, orders, some))
    ('1 1 1', 'yes', 'ab', 'error Unfit')
    >>> answered((leagues, orders, (("rings", "quad"), ("sign", "quad"), ("rows", "quad"), ("ends", "quad"), ("sure", "quad"), ("open", "quad"), ("low", "quad"))))
    ('2', '0', '6', 'abcd acdb adbc bcad cabd', 'ad', 'ac bd', 'none')
    >>> answered((leagues, orders, (("far", "cup", "flat"), ("differ", "cup", "flat"), ("ends", "cup"), ("sure", "cup"), ("open", "flat"), ("low", "flat"), ("rows", "flat"))))
    ('1', '1', 'abc bca cab', 'none', 'ac', 'ac', '1')
    >>> big = (("big", ((1, 2, 3, 4, 5), (2, 3, 4, 5), (3, 4, 5), (4, 5), (5,), ())),)
    >>> answered((big, (), (("ends", "big"), ("far", "big", "big"), ("rings", "big"))))
    ('error TooMany', 'error TooMany', '0')
""",
    "L2": r"""
    >>> from levelturns.desks import Desk, desk_behind
    >>> d = Desk(four)
    >>> [d.wins, d.rings, d.sign, d.turn(2, 0), d.wins, d.rings, d.rise(), d.league, d.is_ranking(), d.log]
    [(2, 1, 2, 1), 2, 0, 1, (3, 1, 1, 1), 1, 2, ((1, 2, 3), (), (1, 3), (1,)), True, ((0, 2), (1, 2))]
    >>> [d.fall(), d.log[2], d.rings, d.undo(), d.undo(), d.version, d.redo(), d.redo(), d.version]
    [3, (0, 3), 1, 2, 1, 1, 2, 3, 3]
    >>> [d.undo(), d.sign]
    [2, 0]
    >>> d.rise()
    raises Unfit()
    >>> d.turn(0, 1)
    raises Refused((0, 1))
    >>> d.turn(0, 4)
    raises Unfit()
    >>> Desk(((), ()))
    raises BadLeague(('match', 0, 1))
""",
    "L3": r"""
    >>> [d.at(0) == four, d.at(1), d.left(), Desk(four).left(), Desk(circle).left(), Desk(steps).is_ranking()]
    [True, ((1, 2, 3), (2,), (3,), (1,)), 1, 6, 3, True]
    >>> e = d.copy()
    >>> [e == d, e.redo(), e == d, d.version, e != d, desk_behind(four, d.log) == d, desk_behind(four, d.log).log, d == d.league]
    [True, 3, False, 2, True, True, ((0, 2), (1, 2)), False]
    >>> d.at(3)
    raises NoVersion(3)
    >>> desk_behind(four, ((0, 2), (0, 2), (0, 1)))
    raises BadLog(2)
    >>> desk_behind(four, ((2, 0),))
    raises BadLog(0)
    >>> desk_behind(four, [(0, 2)])
    raises BadLog(0)
""",
    "M4": r"""
    >>> from levelturns.shells import Shell
    >>> s = Shell()
    >>> [s.say(line) for line in ("show", "sing", "league a:bc b:cd c:d d:a", "wins", "rings", "sign", "open", "rows", "order", "ends")]
    ['no league', 'what', 'version 0', '2 2 1 1', '2', '1', 'ab cd', '6', 'none', 'abdc bacd bcda bdac dabc']
    >>> [s.say(line) for line in ("turn a b", "show", "rings", "open", "turn b a", "turn a c", "turn a a", "turn a h", "turn a i", "undo", "undo", "undo", "redo")]
    ['version 1', 'a:c b:acd c:d d:a', '1', 'ab ac ad bc bd cd', 'version 2', 'error Refused', 'error Unfit', 'error Unfit', 'what', 'version 1', 'version 0', 'error NothingToUndo', 'version 1']
    >>> [s.say(line) for line in ("undo", "joined a:bcd b:cd c:d d:", "joined a:bcd b:cd c: d:c", "far a:bcd b:cd c: d:c", "far a:b b:", "far ", "far", "league a:b b:a", "show", 7)]
    ['version 0', 'no', 'yes', '2', 'error Unfit', 'error BadText', 'what', 'error BadText', 'a:bc b:cd c:d d:a', 'what']
    >>> [s.say(line) for line in ("league a:", "order", "open", "ends", "rise", "rows", "sign")]
    ['version 0', 'a', 'none', 'a', 'error Unfit', '1', '0']
""",
}
