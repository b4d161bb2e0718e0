"""The examples of the document, as they stand there, and those of the README."""

import doctest
import unittest
from pathlib import Path

from suretrips.errors import TripError

EXAMPLES = (
    ("A5", r'''
>>> from suretrips.nets import leads, net_error, roads_from, roads_to, trip_at, trip_count, trip_error
>>> net = (5, ((0, 1), (0, 2), (1, 2), (1, 4), (2, 3), (2, 4), (3, 4)))
>>> [net_error(value) for value in (net, (2, ((0, 1), (0, 1))), (3, ((1, 2),)), list(net), (5, ()), (5, [(0, 1)]), (5, ((0, 1),) * 61))]
[None, None, None, 'form', 'form', 'form', 'form']
>>> [net_error(value) for value in ((1, ((0, 1),)), (25, ((0, 1),)), (True, ((0, 1),)), (3, ((0, 1), (2, 2))), (3, ((1, 0),)), (3, ((0, 3),)), (3, ((0, 1, 1),)), (3, ((0, True),)))]
['many', 'many', 'many', ('road', 1), ('road', 0), ('road', 0), ('road', 0), ('road', 0)]
'''),
    ("A6", r'''
>>> roads_from(net, 0), roads_from(net, 2), roads_from(net, 4), roads_to(net, 2), roads_to(net, 4), roads_to(net, 0)
((0, 1), (4, 5), (), (1, 2), (3, 5, 6), ())
>>> leads(net, 0, 5), leads(net, 1, 3), leads(net, 0, 0), leads(net, 2, 4), leads(net, 3, 6)
(True, False, False, True, False)
'''),
    ("A7", r'''
>>> trip_count(net), [trip_at(net, number) for number in range(5)]
(5, [(0, 2, 4, 6), (0, 2, 5), (0, 3), (1, 4, 6), (1, 5)])
>>> double = (4, ((0, 1), (0, 1), (1, 3), (1, 3), (2, 3)))
>>> trip_count(double), trip_at(double, 1), trip_at(double, 2), trip_count((3, ((1, 2),)))
(4, (0, 3), (1, 2), 0)
>>> [trip_error(net, value) for value in ((0, 3), (1, 5), (3,), (0, 5), (0, 2), (0, 7), (0, 7, 3), (), [0, 3], (0, True), (0, 2, 4, 6, 6))]
[None, None, ('joint', 0), ('joint', 1), 'out', ('road', 1), ('road', 1), 'form', 'form', ('road', 1), ('joint', 4)]
>>> trip_at(net, 5)
raises Unfit()
>>> trip_at(net, True)
raises Unfit()
'''),
    ("A8", r'''
>>> from suretrips.nettexts import net_text, read_net
>>> net_text(net), read_net("4: 0>1 0>1 1>3 1>3 2>3") == double, read_net(net_text(net)) == net, read_net("12: 0>11")
('5: 0>1 0>2 1>2 1>4 2>3 2>4 3>4', True, True, (12, ((0, 11),)))
>>> read_net("5:0>1")
raises BadText(2)
>>> read_net("5: 0>1 ")
raises BadText(7)
>>> read_net("05: 0>1")
raises BadText(1)
>>> read_net("5: 0>123")
raises BadText(7)
>>> read_net(None)
raises BadText(0)
>>> read_net("5: 0>1 2>1")
raises BadNet(('road', 1))
>>> read_net("25: 0>1")
raises BadNet('many')
'''),
    ("B2", r'''
>>> from suretrips.tallies import less, passing, put_together, tally_error, total
>>> square, line = (4, ((0, 1), (0, 2), (1, 2), (1, 3), (2, 3))), (3, ((0, 1), (1, 2)))
>>> some = (12, 7, 5, 7, 12)
>>> [tally_error(square, value) for value in (some, (0, 0, 0, 0, 0), (12, 7, 5, 7), list(some), (12, 7, -5, 7, 12), (12, 7, 5, True, 12), (12, 7, 5, 8, 12), (12, 7, 4, 8, 12))]
[None, None, 'form', 'form', ('road', 2), ('road', 3), ('place', 1), ('place', 2)]
>>> total(square, some), passing(square, some, 1), passing(square, some, 2), passing(square, some, 3), total(square, (0, 0, 0, 0, 0)), total(line, (10 ** 30, 10 ** 30)) == 10 ** 30
(19, 12, 12, 19, 0, True)
'''),
    ("B3", r'''
>>> put_together(some, (1, 0, 1, 0, 1)), less(some, (1, 0, 1, 0, 1)), less(some, some)
((13, 7, 6, 7, 13), (11, 7, 4, 7, 11), (0, 0, 0, 0, 0))
>>> less((1, 0, 0, 1, 0), (1, 0, 1, 0, 1))
raises Unfit()
>>> put_together((10 ** 30, 10 ** 30), (1, 1))
raises TooMany(1000000000000000000000000000000)
'''),
    ("B4", r'''
>>> from suretrips.tallytexts import read_tally, tally_text
>>> tally_text(some), tally_text((0, 0)), read_tally(square, "12 7 5 7 12") == some
('12 7 5 7 12', '0 0', True)
>>> read_tally(line, "12 012")
raises BadText(4)
>>> read_tally(line, "12  12")
raises BadText(3)
>>> read_tally(line, "12 ")
raises BadText(3)
>>> read_tally(line, "1" * 32 + " 1")
raises BadText(31)
>>> read_tally(line, "12 12 12")
raises BadTally('form')
>>> read_tally(line, "12 13")
raises BadTally(('place', 1))
'''),
    ("B5", r'''
>>> from suretrips.fillings import bar_error, filled, holes_error, is_within, narrowed, no_filling
>>> holes = ((12, 12), (0, None), (5, 5), (0, None), (10, 20))
>>> [holes_error(square, value) for value in (holes, holes[:4], list(holes), holes[:4] + ((3, 2),), ((0, True),) + holes[1:], holes[:2] + ((None, None),) + holes[3:], holes[:4] + ((10, 10 ** 28 + 1),))]
[None, 'form', 'form', ('road', 4), ('road', 0), ('road', 2), ('road', 4)]
>>> is_within(holes, some), is_within(holes, (12, 4, 5, 7, 9)), is_within(holes, (12, 10 ** 20, 5, 7, 10 ** 20 + 5))
(True, False, False)
'''),
    ("B6", r'''
>>> is_within(holes, filled(square, holes)), filled(line, ((3, 7), (7, None))), no_filling(square, holes)
(True, (7, 7), None)
>>> tight, odd = ((4, 4), (1, 1), (0, 0), (0, 2), (0, None)), ((3, 3), (0, 0), (5, 5), (0, None), (0, None))
>>> no_filling(square, tight), no_filling(square, odd)
((1,), (0, 2, 3))
>>> [bar_error(square, tight, value) for value in ((1,), (), (2,), (3,), (1, 0), [1], (1, 4))]
[None, 'little', ('open', 4), 'out', 'form', 'form', 'form']
>>> bar_error(square, odd, (0, 2, 3)), bar_error(square, odd, (1,)), bar_error(square, odd, (0, 1, 2, 3))
(None, ('open', 3), 'little')
>>> filled(square, tight)
raises Unfit()
'''),
    ("B7", r'''
>>> narrowed(square, holes)
((12, 12), (5, 15), (5, 5), (7, 7), (10, 20))
>>> narrowed(square, ((0, 4), (0, 2), (0, 3), (0, None), (5, 9))), narrowed(square, ((0, None),) * 5)
(((3, 4), (2, 2), (3, 3), (0, 1), (5, 5)), ((0, None), (0, None), (0, None), (0, None), (0, None)))
>>> narrowed(square, ((2, 9), (1, 1), (4, None), (0, 0), (0, 6))), narrowed((2, ((0, 1), (0, 1))), ((1, None), (2, 3)))
(((4, 5), (1, 1), (4, 5), (0, 0), (5, 6)), ((1, None), (2, 3)))
>>> narrowed(square, tight)
raises Unfit()
'''),
    ("C2", r'''
>>> from suretrips.explaining import all_explained, explained, explanation_error, settled, tally_of
>>> net, tally = (5, ((0, 1), (0, 1), (1, 2), (1, 3), (2, 3), (2, 4), (3, 4))), (5, 3, 6, 2, 4, 2, 6)
>>> told = (((0, 2, 4, 6), 4), ((0, 3, 6), 1), ((1, 2, 5), 2), ((1, 3, 6), 1))
>>> explanation_error(net, tally, told), tally_of(net, told) == tally, tally_of(net, ()), explanation_error(net, (0,) * 7, ())
(None, True, (0, 0, 0, 0, 0, 0, 0), None)
>>> [explanation_error(net, tally, value) for value in (list(told), told + ((),), (((0, 2), 5),), (((0, 2, 5), True),), told[::-1], told[:2] * 2, told[1:], told[:3] + (((1, 3, 6), 2),), ())]
['form', 'form', ('trip', 0), ('times', 0), ('order', 1), ('order', 2), ('road', 0), ('road', 1), ('road', 0)]
'''),
    ("C3", r'''
>>> explanation_error(net, tally, explained(net, tally)), len(all_explained(net, tally)), told in all_explained(net, tally), settled(net, tally)
(None, 8, True, False)
>>> all_explained(net, (1, 1, 1, 1, 1, 0, 2))
((((0, 2, 4, 6), 1), ((1, 3, 6), 1)), (((0, 3, 6), 1), ((1, 2, 4, 6), 1)))
>>> settled(net, (9, 0, 6, 3, 4, 2, 7)), explained(net, (9, 0, 6, 3, 4, 2, 7)), settled(net, (0,) * 7), settled(net, (4, 7, 11, 0, 0, 11, 0))
(True, (((0, 2, 4, 6), 4), ((0, 2, 5), 2), ((0, 3, 6), 3)), True, True)
>>> all_explained(net, (100, 100, 120, 80, 40, 80, 120))
raises TooMany(1000)
'''),
    ("C4", r'''
>>> from suretrips.exchanging import exchanged, exchanges
>>> exchanged(net, told, (((0, 2, 4, 6), (1, 2, 5), 1, 2),))
(((0, 2, 4, 6), 2), ((0, 2, 5), 2), ((0, 3, 6), 1), ((1, 2, 4, 6), 2), ((1, 3, 6), 1))
>>> exchanged(net, told, (((0, 2, 4, 6), (1, 2, 5), 2, 2),)) == exchanged(net, told, (((0, 2, 4, 6), (1, 2, 5), 1, 2),)), exchanged(net, told, ()) == told
(True, True)
>>> exchanged(net, told, (((0, 2, 4, 6), (0, 3, 6), 3, 1),)) == told
True
>>> exchanged(net, told, (((0, 2, 4, 6), (1, 2, 5), 1, 3),))
raises Unfit()
>>> exchanged(net, told, (((0, 2, 4, 6), (1, 2, 5), 3, 1),))
raises Unfit()
'''),
    ("C5", r'''
>>> goal = explained(net, tally)
>>> exchanged(net, told, exchanges(net, told, goal)) == goal, exchanges(net, told, told), exchanged(net, goal, exchanges(net, goal, told)) == told
(True, (), True)
>>> exchanges(net, told, (((0, 3, 6), 1),))
raises Unfit()
'''),
    ("D2", r'''
>>> from suretrips.stretches import excess, is_sure, least_along, least_through, most_along, most_through, stretch_error, sure_stretches
>>> river, seen = (4, ((0, 1), (0, 1), (1, 2), (1, 3), (2, 3))), (5, 3, 6, 2, 6)
>>> [stretch_error(river, value) for value in ((0, 2, 4), (3,), (), [0], (0, 5), (0, True), (0, 4), (2, 4, 0))]
[None, None, 'form', 'form', ('road', 1), ('road', 1), ('joint', 1), ('joint', 2)]
>>> [excess(river, seen, stretch) for stretch in ((0, 2, 4), (1, 2, 4), (0, 3), (1, 3), (2, 4), (4,))]
[3, 1, -1, -3, 6, 6]
'''),
    ("D3", r'''
>>> [(least_along(river, seen, stretch), most_along(river, seen, stretch)) for stretch in ((0, 2, 4), (1, 2, 4), (0, 3), (1, 3), (4,))]
[(3, 5), (1, 3), (0, 2), (0, 2), (6, 6)]
>>> is_sure(river, seen, (1, 2)), is_sure(river, seen, (1, 3)), sure_stretches(river, seen)
(True, False, ((0, 2, 4), (1, 2, 4), (3,)))
>>> sure_stretches(river, (5, 0, 3, 2, 3)), sure_stretches(river, (0, 0, 0, 0, 0))
(((0, 2, 4), (0, 3)), ())
>>> sure_stretches(river, (4, 4, 4, 4, 4))
((0,), (1,), (2, 4), (3,))
'''),
    ("D4", r'''
>>> shut, wide = ((5, 5), (0, 3), (0, None), (2, 2), (0, None)), ((5, 5), (0, 3), (0, None), (0, 4), (0, None))
>>> [(least_through(river, holes, (0, 2, 4)), most_through(river, holes, (0, 2, 4))) for holes in (shut, wide)]
[(3, 5), (1, 5)]
>>> endless = ((0, None), (0, 0), (0, None), (0, 2), (0, None))
>>> least_through(river, endless, (0, 2, 4)), most_through(river, endless, (0, 2, 4)), most_through(river, endless, (0, 3))
(0, None, 2)
>>> least_through(river, ((1, 1), (0, 0), (0, 0), (0, 0), (0, None)), (0,))
raises Unfit()
'''),
    ("E2", r'''
>>> from suretrips.flows import flow_error, greatest_flow
>>> town, counts = (4, ((0, 1), (0, 2), (1, 2), (1, 3), (2, 3))), (5, 4, 2, 3, 6)
>>> [greatest_flow(town, counts, feet, heads, ())[0] for feet, heads in (((0,), (3,)), ((0,), (2,)), ((1,), (3,)), ((0,), (1, 2)), ((2,), (0,)), ((1, 2), (3,)))]
[9, 6, 5, 9, 0, 9]
>>> [greatest_flow(town, counts, (0,), (), ends)[0] for ends in ((2,), (2, 3), (0, 4), (1, 2, 3), ())]
[2, 5, 9, 9, 0]
>>> greatest_flow(town, (None, 0, None, 0, 7), (0,), (2,), ()), greatest_flow(town, (None, 0, None, 0, 7), (0,), (), (2, 4))
((None, (0, 2), ()), (None, (0, 2), ()))
>>> greatest_flow(town, (None, 0, None, 0, 7), (0,), (3,), ())[0], greatest_flow(town, (0, 10 ** 30, 0, 0, 10 ** 30 - 1), (0,), (3,), ())[0]
(7, 999999999999999999999999999999)
>>> greatest_flow(town, (1, 2, 0, 0, 1), (0,), (3,), ())
(1, (0, 1, 0, 0, 1), (0, 1, 2))
'''),
    ("E3", r'''
>>> [flow_error(town, counts, (0,), (2,), (), value) for value in ((6, (2, 4, 2, 0, 0), (0, 1, 3)), (5, (1, 4, 1, 0, 0), (0, 1, 3)), (6, (2, 4, 2, 0, 0), (0, 1)), (6, (2, 4, 2, 0, 0), (1, 3)), (6, [2, 4, 2, 0, 0], (0, 1, 3)))]
[None, 'value', 'value', 'cut', 'form']
>>> [flow_error(town, counts, (0,), (2,), (), (6, flow, (0, 1, 3))) for flow in ((2, 5, 2, 0, 0), (2, 4, 2, 0), (2, 4, 2, 0, 0, 0), (3, 4, 2, 0, 0), (2, 4, True, 0, 0), (5, 4, 2, 3, 0))]
[('road', 1), ('road', 4), ('road', 5), ('place', 1), ('road', 2), ('place', 3)]
>>> [flow_error(town, (None, 0, None, 0, 7), (0,), (2,), (), value) for value in ((None, (0, 2), ()), (None, (2,), ()), (None, (0, 2), (0,)), (0, (0, 0, 0, 0, 0), (0,)), None)]
[None, 'way', 'cut', 'value', 'form']
'''),
    ("E4", r'''
>>> from suretrips.costs import least_cost, least_cost_error
>>> doors = (3, ((0, 1), (0, 1), (1, 2), (1, 2)))
>>> least_cost(doors, ((0, 5), (2, 2), (0, None), (1, 1)), (1, 0, 0, -1)), least_cost(doors, ((0, 5), (2, 2), (0, None), (1, 1)), (-1, 0, 0, 1))
((-1, (0, 2, 1, 1), (0, 0, 0)), (-4, (5, 2, 6, 1), (0, 0, 0)))
>>> least_cost(doors, ((0, None), (2, 2), (0, None), (1, 1)), (-1, 0, 0, 0))
(None, (0, 2), ())
>>> least_cost(doors, ((0, 1), (0, 1), (2, 4), (1, 1)), (1, 0, 0, -1))
raises Unfit()
>>> [least_cost_error(doors, ((0, 5), (2, 2), (0, None), (1, 1)), (1, 0, 0, -1), value) for value in ((-1, (0, 2, 1, 1), (0, 0, 0)), (0, (1, 2, 2, 1), (0, 0, 0)), (-1, (0, 2, 1, 1), (0, 1, 0)), (-1, (0, 2, 1, 1), (0, 0, 1)), (-2, (0, 2, 1, 1), (0, 0, 0)), (-1, (0, 2, 1, 0), (0, 0, 0)))]
[None, ('road', 0), ('road', 2), 'prices', 'worth', 'tally']
'''),
    ("F2", r'''
>>> from suretrips.questions import question_error, taken, takes
>>> net, tally = (5, ((0, 1), (0, 1), (1, 2), (1, 3), (2, 3), (2, 4), (3, 4))), (5, 3, 6, 2, 4, 2, 6)
>>> told = (((0, 2, 4, 6), 4), ((0, 3, 6), 1), ((1, 2, 5), 2), ((1, 3, 6), 1))
>>> [question_error(net, value) for value in (("along", (2, 4)), ("touch", (1, 5)), ("both", 0, 6), ("both", 3, 3), ("along", (0, 2, 4, 6)))]
[None, None, None, None, None]
>>> [question_error(net, value) for value in (["touch", (1,)], ("near", (1,)), ("both", 1), ("touch", (1,), 2), None, ("touch", ()), ("touch", (5, 1)), ("touch", (1, 7)), ("touch", [1]), ("both", 0, 7), ("both", True, 2))]
['form', 'form', 'form', 'form', 'form', 'marks', 'marks', 'marks', 'marks', 'road', 'road']
>>> takes(("along", (2, 4)), (0, 2, 4, 6)), takes(("along", (2, 5)), (0, 2, 4, 6)), takes(("touch", (1, 5)), (0, 2, 5)), takes(("both", 6, 0), (0, 3, 6)), takes(("both", 3, 3), (0, 2, 5))
(True, False, True, True, False)
>>> [taken(question, told) for question in (("along", (2, 4)), ("touch", (1, 5)), ("both", 0, 6), ("both", 1, 6))]
[4, 3, 5, 1]
'''),
    ("F3", r'''
>>> from suretrips.answering import door_table, least, most
>>> [(least(net, tally, question), most(net, tally, question)) for question in (("along", (0, 2)), ("along", (2, 4)), ("along", (0, 2, 4)), ("along", (0, 3, 6)))]
[(3, 5), (4, 4), (1, 4), (0, 2)]
>>> [(least(net, tally, question), most(net, tally, question)) for question in (("touch", (1, 5)), ("touch", (3, 4)), ("touch", (0, 1)), ("touch", (2,)))]
[(3, 5), (6, 6), (8, 8), (6, 6)]
>>> [(least(net, tally, question), most(net, tally, question)) for question in (("both", 0, 6), ("both", 1, 6), ("both", 1, 5), ("both", 5, 6), ("both", 4, 4))]
[(3, 5), (1, 3), (0, 2), (0, 0), (4, 4)]
>>> great = tuple([count * 10 ** 29 for count in tally])
>>> least(net, great, ("both", 0, 6)) == 3 * 10 ** 29, most(net, great, ("touch", (1, 5))) == 5 * 10 ** 29
(True, True)
'''),
    ("F4", r'''
>>> door_table(net, tally)
(((0, 2), (3, 5)), ((0, 2), (1, 3)))
'''),
    ("G3", r'''
>>> from suretrips.papers import paper, paper_error, shown
>>> doors, counts = (3, ((0, 1), (0, 1), (1, 2), (1, 2))), (3, 2, 4, 1)
>>> few, many = (((0, 2), 2), ((0, 3), 1), ((1, 2), 2)), (((0, 2), 3), ((1, 2), 1), ((1, 3), 1))
>>> paper(doors, counts, ("touch", (0, 3))) == ((3, few, ("places", (0,))), (4, many, ("places", (0, 1, 2))))
True
>>> [shown(doors, counts, ("touch", (0, 3)), places) for places in ((0,), (0, 1), (0, 1, 2), (0, 2), (1,), ())]
[(3, 5), (1, 8), (None, 4), (None, 5), (None, None), (None, None)]
>>> [shown(doors, counts, ("both", 0, 2), places) for places in ((0,), (0, 2), (0, 1), (1,))], shown(doors, counts, ("both", 2, 0), (0,)), shown(doors, counts, ("both", 0, 1), (0,))
([(2, None), (2, None), (None, None), (None, None)], (2, None), (None, None))
>>> paper(doors, counts, ("along", (0, 2))) in [((2, few, None), (3, many, ("road", 0)))]
True
>>> low, high = (2, few, ("places", (0,))), (3, many, ("road", 0))
>>> [paper_error(doors, counts, ("both", 0, 2), value) for value in ((low, high), (low, low), (high, high), (low, (3, many, ("road", 2))), (low, (3, many, None)), ((2, few, None), high), (low,), [low, high])]
[None, ('greatest', 'bound'), ('least', 'bound'), ('greatest', 'bound'), ('greatest', 'bound'), ('least', 'bound'), 'form', 'form']
>>> [paper_error(doors, counts, ("both", 0, 2), (low, own)) for own in ((2, many, ("road", 0)), (3, few, ("road", 0)), (True, many, ("road", 0)), (3, many[:2], ("road", 0)), (3, None, ("road", 0)))]
[('greatest', 'number'), ('greatest', 'number'), ('greatest', 'number'), ('greatest', 'explanation'), ('greatest', 'explanation')]
>>> paper(doors, counts, ("both", 0, 1))[0][0], paper(doors, counts, ("both", 0, 1))[1][2], paper(doors, counts, ("both", 2, 2))[0][0], paper(doors, counts, ("both", 2, 2))[1][2]
(0, None, 4, ('road', 2))
'''),
    ("G4", r'''
>>> from suretrips.anynumber import with_number
>>> with_number(doors, counts, ("touch", (0, 3)), 4) == many, with_number(doors, counts, ("along", (0, 2)), 2) == few
(True, True)
>>> with_number(doors, counts, ("touch", (0, 3)), 5)
raises Unfit()
>>> far = tuple([10 ** 29 * count for count in counts])
>>> with_number(doors, far, ("both", 0, 2), 25 * 10 ** 28 + 1)
(((0, 2), 250000000000000000000000000001), ((0, 3), 49999999999999999999999999999), ((1, 2), 149999999999999999999999999999), ((1, 3), 50000000000000000000000000001))
'''),
    ("H2", r'''
>>> from suretrips.following import apart, avoider, avoider_error, barrier, barrier_error, followers, follows, lone, ways_past
>>> river, seen, late = (4, ((0, 1), (0, 1), (1, 2), (1, 3), (2, 3))), (5, 3, 6, 2, 6), (5, 0, 3, 2, 3)
>>> [follows(river, seen, a, b) for a, b in ((2, 4), (4, 2), (0, 2), (2, 0), (1, 1))]
[True, True, False, False, True]
>>> [followers(river, seen, a) for a in (0, 2, 4)], [followers(river, late, a) for a in (0, 2, 3, 4)]
([(), (4,), (2,)], [(), (0, 4), (0,), (0, 2)])
>>> [apart(river, seen, a, b) for a, b in ((2, 3), (0, 1), (0, 3), (3, 0), (4, 4))], apart(river, late, 1, 2)
([True, True, False, False, False], True)
>>> follows(river, late, 1, 2)
raises Unfit()
'''),
    ("H3", r'''
>>> ways_past(river, seen, 2), ways_past(river, seen, 3), ways_past(river, late, 4), ways_past(river, late, 1)
((2, ((0, 2, 4), (1, 2, 4))), (2, ((0, 3), (1, 3))), (1, ((0, 2, 4),)), (0, ()))
>>> lone(river, seen, 5), lone(river, late, 2), lone(river, late, 3), lone(river, seen, 10 ** 30)
((), ((3, 0),), ((2, 0), (2, 4), (3, 0), (4, 0), (4, 2)), ((2, 4), (4, 2)))
'''),
    ("H4", r'''
>>> avoider(river, seen, 2, 0), avoider(river, seen, 2, 4), avoider(river, seen, 0, 2)
((1, 2, 4), None, (0, 3))
>>> [avoider_error(river, late, 0, 2, value) for value in ((0, 3), (0, 2), (1, 3), (0, 2, 4), None)]
[None, 'trip', 'count', 'avoids', 'trip']
>>> [barrier_error(river, seen, 2, 4, value) for value in (("behind", (2,)), ("behind", (1, 2)), ("before", (0, 1)), ("behind", (2, 3)), ("self",), ("behind", [2]))]
[None, ('road', 3), 'end', 'end', 'self', 'form']
>>> barrier(river, seen, 0, 2), barrier(river, seen, 3, 3), barrier_error(river, late, 2, 0, ("before", (0,)))
(None, ('self',), None)
>>> barrier_error(river, seen, 4, 2, barrier(river, seen, 4, 2)) is None
True
'''),
    ("J2", r'''
>>> from suretrips.lexing import is_name, tokens
>>> [is_name(value) for value in ("a", "a1", "1a", "abcdefgh", "abcdefghi", "", "A", "out", "outs", 5)]
[True, True, False, True, False, False, False, False, True, False]
>>> tokens("road a1:b>c 7..;"), tokens("12a")
((('word', 'road', 0), ('word', 'a1', 5), ('sign', ':', 7), ('word', 'b', 8), ('sign', '>', 9), ('word', 'c', 10), ('number', '7', 12), ('sign', '..', 13), ('sign', ';', 15)), (('number', '12', 0), ('word', 'a', 2)))
>>> tokens("followers"), tokens("")
((('word', 'followers', 0),), ())
>>> tokens("a follower1")
raises BadText(2)
>>> tokens("a 07")
raises BadText(2)
>>> tokens("5.")
raises BadText(1)
>>> tokens("a, b")
raises BadText(1)
'''),
    ("J3", r'''
>>> from suretrips.verdicts import answered, holds, saying_error, verdict, witnesses
>>> river, seen = (4, ((0, 1), (0, 1), (1, 2), (1, 3), (2, 3))), (5, 3, 6, 2, 6)
>>> both = ("both", 0, 2)
>>> [saying_error(river, value) for value in (("least", 4, both), ("not", ("follow", 0, 2)), ("least", -1, both), ("follow", 0, 5), ("not",), ["most", 4, both], ("most", True, ("both", 9, 9)))]
[None, None, ('number',), ('road',), 'form', 'form', ('number',)]
>>> one, other = (((0, 2, 4), 3), ((0, 3), 2), ((1, 2, 4), 3)), (((0, 2, 4), 5), ((1, 2, 4), 1), ((1, 3), 2))
>>> [holds(saying, one) for saying in (("least", 4, both), ("most", 3, both), ("follow", 2, 4), ("follow", 3, 0), ("not", ("follow", 0, 2)))], holds(("least", 4, both), other)
([False, True, True, True, True], True)
'''),
    ("J4", r'''
>>> [verdict(river, seen, saying) for saying in (("least", 3, both), ("least", 4, both), ("most", 5, both), ("most", 2, both), ("not", ("most", 2, both)))]
['surely', 'perhaps', 'surely', 'never', 'surely']
>>> [verdict(river, seen, ("follow", a, b)) for a, b in ((2, 4), (4, 2), (0, 2), (2, 0), (3, 2))], verdict(river, (0, 0, 0, 0, 0), ("follow", 0, 2))
(['surely', 'surely', 'perhaps', 'never', 'never'], 'surely')
>>> [found is None for found in witnesses(river, seen, ("least", 4, both))], [found is None for found in witnesses(river, seen, ("most", 2, both))]
([False, False], [True, False])
'''),
    ("J7", r'''
>>> from suretrips.booktexts import book_text, read_book
>>> told = "places hall cafe yard street; in street; out yard;\nroad door: street > hall 120; road a: hall > cafe ?; road b: hall > yard 30..50; road c: cafe > yard ?; road d: street > cafe 40; ask most touch d a;"
>>> book = read_book(told)
>>> book[:3], book[3]
((('street', 'hall', 'cafe', 'yard'), ('door', 'a', 'b', 'c', 'd'), (4, ((0, 1), (1, 2), (1, 3), (2, 3), (0, 2)))), ((120, 120), (0, None), (30, 50), (0, None), (40, 40)))
>>> book[4:], read_book(book_text(book)) == book
(((), (('most', ('touch', (1, 4))),)), True)
>>> book_text(book).split("\n")[:6]
['places street hall cafe yard;', 'in street;', 'out yard;', 'road door: street > hall 120;', 'road a: hall > cafe ?;', 'road b: hall > yard 30..50;']
>>> read_book("places a b c; in a; out c; road r: a > b 5; road s: b > b ?;")
raises Ring(('b',))
>>> read_book("places a b c d; in a; out d; road r: b > c 5; road s: c > b 5;")
raises Ring(('c', 'b'))
>>> read_book("places a b; in a; out b; road r: b > a 5;")
raises BadText(33)
>>> read_book("places a b; in a; out b; road r: a > b 5..4;")
raises Unfit()
>>> read_book("places a b a;")
raises Taken('a')
>>> read_book("places a b; in a; out b; road r: a > c 5;")
raises NoName('c')
>>> read_book("places a b; in a; out b;")
raises BadText(24)
'''),
    ("J8", r'''
>>> asks = "known 3: door a c; ask least both door c; ask most both d c; ask least touch b d; ask followers a; say least 70 both door c; say not most 74 both door c; say follow c a; say follow d c;"
>>> answered(read_book(told.replace("30..50", "45").replace("ask most touch d a;", asks)))
('75', '40', '85', 'door c', 'surely', 'surely', 'never', 'surely')
>>> answered(book)
raises Unfit()
>>> answered(read_book(told.replace("30..50", "45").replace("ask most touch d a;", "known 46: door b;")))
raises Unfit()
'''),
    ("K2", r'''
>>> from suretrips.plans import plan_error, plan_text, read_plan
>>> shop = (2, 3, ((-1, 0, 0), (0, 1, 1), (1, -1, 0), (0, -1, 0)))
>>> [plan_error(value) for value in (shop, (1, 1, ((-1, 0, 0),)), shop[:2], (2, 3, ()), (0, 3, shop[2]), (2, 7, shop[2]), (2, True, shop[2]))]
[None, None, 'form', 'form', 'rooms', 'beats', 'beats']
>>> [plan_error((2, 3, (door,))) for door in ((-1, 0, 1), (-1, -1, 0), (0, 0, 1), (0, 1, 0), (0, 1, 6), (0, 2, 1), (0, 1, 7), [0, 1, 1])]
[('door', 0), ('door', 0), ('door', 0), ('door', 0), None, ('door', 0), ('door', 0), ('door', 0)]
>>> plan_error((6, 4, ((-1, 0, 0),))), plan_error((2, 6, ((-1, 0, 0),) * 9))
('places', 'roads')
'''),
    ("K3", r'''
>>> plan_text(shop), read_plan(plan_text(shop)) == shop
('2 3: in>0 0>1*1 1>out 0>out', True)
>>> read_plan("2 3: in>out")
raises BadText(8)
>>> read_plan("2 3: 0>1")
raises BadText(8)
>>> read_plan("2 3: 0>1*0")
raises BadNet(('door', 0))
'''),
    ("K4", r'''
>>> from suretrips.unrolling import counts_error, counts_of, place_of, road_of, tally_of_plan, told_back, unrolled, wait_of
>>> unrolled((1, 2, ((-1, 0, 0), (0, -1, 0))))
(4, ((0, 1), (0, 2), (1, 3), (2, 3), (1, 2), (2, 3)))
>>> unrolled(shop)[0], unrolled(shop)[1][:11]
(8, ((0, 1), (0, 3), (0, 5), (1, 4), (3, 6), (2, 7), (4, 7), (6, 7), (1, 7), (3, 7), (5, 7)))
>>> unrolled(shop)[1][11:], place_of(shop, 1, 2), road_of(shop, 1, 1), road_of(shop, 3, 0), wait_of(shop, 0, 0), wait_of(shop, 1, 2)
(((1, 3), (3, 5), (5, 7), (2, 4), (4, 6), (6, 7)), 6, 4, 8, 11, 16)
>>> road_of(shop, 1, 2)
raises Unfit()
'''),
    ("K5", r'''
>>> day = ((5, 3, 0), (2, 1), (0, 2, 1), (1, 0, 2))
>>> tally_of_plan(shop, day), counts_of(shop, tally_of_plan(shop, day)) == day
((5, 3, 0, 2, 1, 0, 2, 1, 1, 0, 2, 2, 4, 2, 0, 0, 0), True)
>>> [counts_error(shop, value) for value in (day, day[:3], ((5, 3),) + day[1:], ((5, 3, True),) + day[1:], day[:2] + ((1, 2, 1),) + day[3:], ((1, 0, 0),) + day[1:])]
[None, 'form', ('door', 0), ('door', 0), ('lack', 1, 0), ('lack', 0, 0)]
>>> tally_of_plan(shop, day[:2] + ((0, 3, 1),) + day[3:])
raises BadTally(('lack', 1, 1))
'''),
    ("K6", r'''
>>> told_back(shop, (0, 3, 6)), told_back(shop, (0, 3, 15, 16)), told_back(shop, (0, 11, 9))
((('door', 0, 0), ('door', 1, 0), ('door', 2, 1)), (('door', 0, 0), ('door', 1, 0), ('wait', 1, 1), ('stay', 1, 2)), (('door', 0, 0), ('wait', 0, 0), ('door', 3, 1)))
'''),
    ("L3", r'''
>>> from suretrips.desks import Desk, desk_behind
>>> river = (4, ((0, 1), (0, 1), (1, 2), (1, 3), (2, 3)))
>>> d = Desk(river)
>>> [d.see((0, 2, 4), 5), d.see((1, 3), 2), d.see((1, 2, 4), 1)], d.tally, d.known
([1, 2, 3], (5, 3, 6, 2, 6), ())
>>> d.least(("along", (0, 2, 4))), d.most(("along", (0, 2, 4))), d.settled(), d.follows(2, 4)
(3, 5, False, True)
>>> d.know((1, 3), 2), d.rest(), d.least(("along", (0, 2, 4))), d.settled()
(4, (5, 1, 6, 0, 6), 5, True)
>>> d.follows(0, 2), d.follows(3, 1)
(True, True)
>>> d.take_back((0, 3), 1)
raises Unfit()
>>> d.know((0, 3), 1)
raises Unfit()
>>> d.see((0, 4), 1)
raises Unfit()
>>> d.doubt((1, 3), 1), d.known, d.least(("along", (0, 2, 4))), d.most(("both", 1, 3)), d.least(("both", 1, 3))
(5, (((1, 3), 1),), 4, 2, 1)
>>> d.undo(), d.known, d.redo(), d.known, len(d.log), d.log[3]
(4, (((1, 3), 2),), 5, (((1, 3), 1),), 5, ('know', (1, 3), 2))
>>> e = d.copy()
>>> e == d, e.put((5, 3, 5, 3, 5)), e.least(("along", (0, 2, 4))), e == d, d.tally[2]
(True, 6, 3, False, 6)
>>> e.put((5, 3, 8, 0, 8))
raises Unfit()
>>> e.put((5, 3, 8, 0, 7))
raises BadTally(('place', 2))
>>> Desk((2, ())).version
raises BadNet('form')
'''),
    ("L4", r'''
>>> desk_behind(river, d.log) == d, desk_behind(river, d.log).known, desk_behind(river, ()).tally
(True, (((1, 3), 1),), (0, 0, 0, 0, 0))
>>> desk_behind(river, (("see", (0, 3), 1), ("know", (1, 3), 1)))
raises BadLog(1)
>>> desk_behind(river, (("undo",),))
raises BadLog(0)
'''),
    ("M4", r'''
>>> from suretrips.shells import Shell
>>> s = Shell()
>>> s.say("tally"), s.say("book places hall yard street; in street; out yard; road a: street > hall 3; road b: street > hall 2; road c: hall > yard 4; road d: hall > yard ?; ask least both a c;")
('no book', 'version 1')
>>> s.say("tally"), s.say("known"), s.say("sure"), s.say("followers a"), s.say("answers")
('a=3 b=2 c=4 d=1', 'none', 'a>c b>c d', 'none', '2')
>>> s.say("least both a c"), s.say("most both c a"), s.say("least touch d a"), s.say("most along a c"), s.say("with 3 both a c")
('2', '3', '3', '3', '3 a c, 1 b c, 1 b d')
>>> s.say("know 2 a c"), s.say("know 1  a d"), s.say("known"), s.say("most both a c"), s.say("undo"), s.say("most both a c")
('version 2', 'version 3', '2 a c, 1 a d', '2', 'version 2', '3')
>>> s.say("verdict not least 3 both a c"), s.say("verdict most 3 touch a"), s.say("verdict follow a c")
('perhaps', 'surely', 'perhaps')
>>> [s.say(line) for line in ("see 1 a b", "see 1 a z", "see 01 a c", "see 0 a c", "doubt 3 a c", "least near a", "least along a b", "see 1", "least", "put 3", 5)]
['error Unfit', 'error NoName', 'error BadText', 'error Unfit', 'error Unfit', 'error BadText', 'error Unfit', 'error BadText', 'what', 'what', 'what']
>>> s.say("book places a;"), s.say("redo"), s.say("redo"), s.say("text").split("\n")[0]
('error BadText', 'version 3', 'error NothingToUndo', 'places street hall yard;')
'''),
)


def examples_of(text):
    """The pairs of a line of code and of what it has to tell, None if nothing."""
    found = []
    for line in text.strip().split("\n"):
        if line.startswith(">>> "):
            found.append((line[4:], None))
        else:
            found[-1] = (found[-1][0], line)
    return found


def told_by(code, names):
    """What the line of code tells, written as the document writes it."""
    try:
        return repr(eval(code, names))
    except TripError as error:
        fields = ", ".join([repr(value) for value in vars(error).values()])
        return f"raises {type(error).__name__}({fields})"


class Examples(unittest.TestCase):

    def test_examples_of_the_document(self):
        names = {}
        for point, text in EXAMPLES:
            for code, wanted in examples_of(text):
                with self.subTest(point=point, code=code):
                    if wanted is None:
                        exec(code, names)
                    else:
                        self.assertEqual(told_by(code, names), wanted)

    def test_the_examples_are_all_run(self):
        self.assertEqual(sum([len(examples_of(text)) for _, text in EXAMPLES]), 223)

    def test_examples_of_the_readme(self):
        readme = Path(__file__).resolve().parent.parent / "README.md"
        told = doctest.testfile(str(readme), module_relative=False)
        self.assertEqual(told.failed, 0)
        self.assertGreater(told.attempted, 9)


if __name__ == "__main__":
    unittest.main()
