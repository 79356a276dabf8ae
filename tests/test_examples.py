"""The examples of the document, to the letter; later sections go on with the names of earlier ones."""

import doctest
import unittest

EXAMPLES = {
    4: r"""
>>> from clankernel.rows import is_placed, row_of, row_text, word_of
>>> [row_of(4099), row_of(12801), row_of(0), word_of(('store', 1, 3, 32)), row_text(('some', 0, 2)), is_placed(('go', 1))]
[('set', 0, 3), ('add', 1, 0), None, 21216, 'some r0 2', False]
""",
    5: r"""
>>> from clankernel.asm import moved, Program, text_of
>>> count = Program('start:\nset r0 3\nset r1 0\nloop:\nadd r1 r0\nset r2 1\nsub r0 r2\nsome r0 loop\nstore r1 r3 32\ntrap 0')
>>> [count.words[:3], count.words[5:], count.names]
[((0, 4099), (1, 4608), (2, 12801)), ((5, 32770), (6, 21216), (7, 57344)), (('loop', 2), ('start', 0))]
>>> [text_of(((0, 4099), (1, 0), (9, 57344))), moved(count.words, 16)[5], moved(count.words, 16)[0]]
['at 0\nset r0 3\nword 0\nat 9\ntrap 0', (21, 32786), (16, 4099)]
""",
    6: r"""
>>> from clankernel.cells import Cell, does, memory_of, run_rows, step, touches, wants
>>> from clankernel.asm import Program
>>> from clankernel.rows import word_of
>>> count = Program('set r0 3\nloop:\nadd r1 r0\nset r2 1\nsub r0 r2\nsome r0 loop\nstore r1 r3 32\ntrap 0')
>>> first = Cell((0,) * 8, 0)
>>> done, cell, memory, end = run_rows(first, memory_of(count.words), 100)
>>> [done, cell.registers[:3], cell.place, memory[32], end]
[15, (0, 6, 1), 7, 6, ('trap', 0)]
>>> [run_rows(first, memory_of(count.words), 4)[0::3], run_rows(first, memory_of(()), 9)[0::3], wants(Cell((0, 5, 0, 0, 0, 0, 0, 0), 3), word_of(('load', 0, 1, 2)))]
[(4, ('ticks',)), (0, ('fault', 'row', 0)), 7]
>>> [does(first, word_of(('div', 0, 1)), None), does(first, word_of(('store', 0, 1, 40)), None)[2:], touches(first, word_of(('store', 0, 1, 40))), step(first, memory_of(((0, 49152 + 512),)))[0]]
[('fault', 'nought', 0), (40, 0), (('w', 2), ('x', 0)), 'goes']
""",
    7: r"""
>>> from clankernel.spaces import Spaces
>>> home = Spaces('frames 4\ntasks 3\npage 1 0 rw 0 2\npage 1 1 r 0 2\npage 2 5 r 1 0')
>>> [home.pages[0], len(home), (0, 3) in home, (0, 4) in home]
[(1, 0, 2, 'rw'), 3, True, False]
>>> home.mapped(1, (0, 2), 2, (4, 4), 6, 'rw').text.split('\n')[4:]
['page 2 5 r 1 0', 'page 2 6 rw 1 0', 'page 2 7 r 1 1']
>>> home.granted(1, (0, 1), 2, (0, 1), 0, 'r').text.split('\n')[2:]
['page 1 1 r 0 2', 'page 2 0 r 0 2', 'page 2 5 r 2 0']
>>> [home.unmapped(0, (2, 1), 'r', False).pages, home.mapped(2, (5, 1), 1, (0, 1), 0, 'r').pages, home.mapped(0, (2, 1), 1, (1, 1), 0, 'w').pages[1]]
[((1, 0, 2, 'w'),), ((1, 1, 2, 'r'),), (1, 1, 2, 'rw')]
""",
    8: r"""
>>> from clankernel.hot import block_pairs
>>> from clankernel.trees import page_at, page_beneath, page_chain, page_holders, told_apart
>>> [block_pairs((0, 2), (4, 4), 6), block_pairs((0, 4), (8, 2), 3), block_pairs((4, 1), (0, 16), 9), block_pairs((2, 2), (6, 2), 15)]
[((0, 6), (1, 7)), ((2, 8), (3, 9)), ((4, 9),), ((2, 6), (3, 7))]
>>> [page_at(home, 1, 0), page_at(home, 2, 0), page_chain(home, 2, 5), page_beneath(home, 0, 2), page_holders(home, 2)[2:]]
[(2, 'rw'), None, ((2, 5), (1, 0), (0, 2)), ((1, 0), (1, 1), (2, 5)), ((1, 1, 'r'), (2, 5, 'r'))]
>>> told_apart(Spaces('frames 1\ntasks 3\npage 1 0 r 0 0\npage 2 0 r 0 0'), Spaces('frames 1\ntasks 3\npage 1 0 r 0 0\npage 2 0 r 1 0'))
('unmap', 1, 0, 'r')
""",
    9: r"""
>>> from clankernel.tables import shows_tables, tables_of, walk
>>> [tables_of(home, 1), tables_of(home, 2), tables_of(home, 0)]
[(4, 0, 0, 0, 147, 145, 0, 0), (0, 4, 0, 0, 0, 145, 0, 0), (391, 0, 0, 0)]
>>> [walk((4, 0, 0, 0, 147, 145, 0, 0), 17), walk((4, 0, 0, 0, 147, 145, 0, 0), 40), walk((391, 0, 0, 0), 63)]
[(2, 1, 'r'), None, (3, 15, 'rwx')]
>>> [shows_tables(home, 2, (0, 5, 0, 0, 9, 0, 145, 0, 0)), shows_tables(home, 2, (0, 4, 0, 0, 0, 147, 0, 0)), shows_tables(home, 1, (4, 0, 4, 0, 147, 145, 0, 0))]
[True, False, False]
""",
    10: r"""
>>> from clankernel.kept import kept, plain, shows_stale, writers
>>> two = Spaces('frames 2\ntasks 2')
>>> course = (('map', 0, (0, 1), 1, (3, 1), 0, 'rw'), ('write', 1, 48, 7), ('read', 0, 0), ('unmap', 0, (0, 1), 'rw', False), ('read', 1, 48))
>>> [plain(two, course), writers(two, course), kept(two, course, ('given', 'own', 'window')), shows_stale(('given', 'own', 'window'), (two.text, course))]
[(None, True, 7, None, None), (None, None, 1, None, None), (None, True, 7, None, 7), True]
""",
    11: r"""
>>> from clankernel.rights import Rights
>>> bare = Rights('tasks 3\ngate 1\ngate 2\nnext 0')
>>> some = bare.first(0, 0, 'g0').first(1, 0, 'g1').minted(0, 0, 1, 7)
>>> some.text.split('\n')[3:]
['next 3', 'right 0 0 0 g0 sg - -', 'right 1 1 0 g1 sg - -', 'right 2 0 1 g0 sg 7 0']
>>> more = some.handed(0, 1, 2, 5, 's', None)
>>> [more.rows[3], more.dropped(0, 1).rows[2], more.taken_back(0, 0).next, len(more.taken_back(0, 0).rows), more.moved(2, 5, 4).rows[3][2]]
[(3, 2, 5, 'g0', 's', 7, 2), (3, 2, 5, 'g0', 's', 7, 0), 4, 2, 4]
""",
    12: r"""
>>> from clankernel.places import bared, right_beneath, right_chain, right_holders
>>> [right_chain(more, 3), right_beneath(more, 0), right_holders(more, 'g0', 's'), right_holders(more, 'g0', 'g'), bared(more, 0)]
[(3, 2, 0), (2, 3), (0, 2), (0,), ((2, 'g0'),)]
""",
    14: r"""
>>> from clankernel.meeting import message
>>> from clankernel.waiting import Waits
>>> two = Waits('now 0\nthreads 4 4\ngates 1')
>>> later, told = message(two, 0, 0, 7, (1, 2, 3, 4), 5, 'reply', None)
>>> [told, later.state(0)[:2], later.text.split('\n')[3]]
[(), ('sends', 0), 'sends 0 0 7 1 2 3 4 0 5 reply ever']
>>> later, told = message(later, 1, None, None, (0, 0, 0, 0), 0, 'any', 0)
>>> [told, later.state(0), later.owes(1)]
[(('met', 'called', 0, 1, 0, 7, (1, 2, 3, 4)),), ('receives', 'reply', 0, None), 0]
>>> later, told = message(later, 1, 'reply', None, (9, 9, 9, 9), 0, 'any', None)
>>> [told[0][:4], later.state(1)]
[('met', 'replied', 1, 0), ('receives', 'any', 0, None)]
""",
    18: r"""
>>> from clankernel.faults import behind_answer, fault_of, fault_words, first_refused
>>> held = ('rx', 'rw') + ('',) * 14
>>> [first_refused(held, ((3, 'x'), (40, 'r'))), first_refused(held, ((3, 'x'), (20, 'r'))), first_refused(held, ((20, 'x'), (40, 'r')))]
[('page', 'r', 40), None, ('page', 'x', 20)]
>>> [fault_words(('page', 'w', 37), 5), fault_of((7, 9, 20, 0)), behind_answer(('trap', 9), (2, 100, 0, 0)), behind_answer(('trap', 9), (2, 256, 0, 0))]
[(2, 37, 5, 0), (('trap', 9), 20), ('at', 100), ('rests',)]
""",
    19: r"""
>>> from clankernel.devices import Devices, fed
>>> devices = Devices('device 0 7\ndevice - 0')
>>> later = devices.rang(0, 500).rang(1, 3).rang(0, 501)
>>> [later.text, later.first_at((0, 2)), later.first_at((2,)), later.taken(0)[:2], later.taken(0)[2].text]
['device 0 7 501 2\ndevice - 0 3 1', 0, None, ((8, 0, 501, 2), 7), 'device 0 7\ndevice - 0 3 1']
>>> [fed(devices, ((0, 0, 500), (4, 1, 3), (4, 0, 501))) == later, later.bound(1, 2, 9).first_at((2,))]
[True, 1]
""",
    20: r"""
>>> from clankernel.turns import Turns, who_runs
>>> three = Turns('manner slices\nthread 0 3 2 2\nthread 0 3 3 3\nthread 1 5 4 4\nrow 0 1')
>>> [three.next, who_runs(three, 7), three.ready(2).next, three.ready(2).wait(2, 0).row, who_runs(three.ready(2).wait(2, 0), 4)]
[0, (0, 0, 1, 1, 1, 0, 0), 2, (0, 1), (0, 0, 0, 0)]
>>> served = three.rest(0).ready(2).call(2, 0)
>>> [served.row, served.next, served.passed().threads[2], served.reply(0, False).row, served.reply(0, True).row, who_runs(served, 5)]
[(1, 0), 0, (1, 5, 4, 3), (1, 2), (1, 2, 0), (0, 0, 0, 0, 0)]
>>> table = Turns('manner table 0 2 1 1\nat 1\nthread 0 1 5 5\nthread 1 7 5 5\nrow 0 1')
>>> [who_runs(table, 6), table.rest(1).next, who_runs(table.rest(1), 3)]
[(0, 1, 0, 0, 1, 0), 0, (0, None, 0)]
""",
    21: r"""
>>> from clankernel.lending import lent, payer, runs_again, shares
>>> chain = Turns('manner slices\nthread 0 1 5 5\nthread 0 2 5 5\nthread 0 6 5 5\nthread 0 4 5 5\nrow 0 3\nwaits 1 0\ncalls 2 1')
>>> [lent(chain, 0), lent(chain, 3), payer(chain, 1), payer(chain, 0), runs_again(chain, 0), runs_again(chain, 3), shares(chain, 3)]
[(6, (0, 1, 2)), (4, (3,)), (2, (1, 2)), (0, (0,)), ('within', 0), ('never', (0,)), ((3, 3), (0, 0), (0, 0), (0, 0))]
""",
    22: r"""
>>> from clankernel.answers import answer, Loads, play, priorities, shows_answer, shows_priorities
>>> loads = Loads('job 5 7 2\njob 7 4 2\njob 20 1 3')
>>> asks = ((0, 0), (0, 1), (0, 2), (5, 0), (7, 1), (10, 0))
>>> [[answer(loads, job)[1] for job in (0, 1, 2)], play(loads, asks, 13)[0][4:7], play(loads, asks, 13)[1], shows_answer(loads, 2, ('within', 13, asks))]
[[2, 4, 13], (2, 0, 0), (2, 4, 13, 2, 2, 2), True]
>>> [shows_priorities(loads, (5, 7, 20), ('priorities', (2, 1, 0))), priorities(Loads('job 4 1 2\njob 4 0 3'), (4, 4))]
[True, ('none', (0, 1))]
""",
    23: r"""
>>> from clankernel.clans import Clans, beneath, clan, depth
>>> house = Clans('clans 7\ntask 0 - border\ntask 1 0 border\ntask 2 0 none\ntask 4 1 border\ntask 5 1 none\ntask 6 4 none')
>>> [house.tasks, house.chief(6), house.chief(0), clan(house, 4), beneath(house, 1), depth(house, 6), 3 in house]
[(0, 1, 2, 4, 5, 6), 4, None, (4, 5), (4, 5, 6), 3, False]
>>> less = house.killed(4)
>>> [less.tasks, less.fresh, less.made(5, True).tasks, less.made(5, True).chief(7)]
[(0, 1, 2, 5), 7, (0, 1, 2, 5, 7), 5]
""",
    24: r"""
>>> from clankernel.ways import met_by, next_stop, passes, straight, way, way_sort
>>> [straight(house, 4, 5), straight(house, 6, 4), straight(house, 6, 1), next_stop(house, 6, 2), next_stop(house, 2, 6), way(house, 6, 2), way(house, 2, 6)]
[True, True, False, 4, 1, (4, 1, 2), (1, 4, 6)]
>>> [way(house, 0, 6), way_sort(house, 2, 6), way_sort(house, 6, 2), way_sort(house, 0, 5), passes(house, 6, 2), passes(house.bordered(1, False), 6, 2)]
[(1, 4, 6), 'inner', 'outer', 'inner', ('passes', (4, 1, 2)), ('barred', 1)]
>>> met_by(house, 4)
((0, 6), (1, 6), (2, 6), (5, 6), (6, 0), (6, 1), (6, 2), (6, 5))
""",
    31: r"""
>>> from clankernel.asm import Program
>>> from clankernel.cells import memory_of
>>> from clankernel.paged import carried, Paged
>>> start = memory_of(Program('load r0 r1 20\nstore r0 r1 40\ntrap 0\nat 20\nword 7').words)
>>> end, brought, paged = carried(start, 2, 'turn', 9)
>>> [end, brought, paged.memory[40], paged.store[40], paged.frames, paged.written]
[('trap', 0), ((0, 0, 0), (0, 1, 1), (1, 2, 0), (1, 0, 1)), 7, 0, (2, 0), (2,)]
>>> [carried(start, 1, 'turn', 9)[0], carried(start, 3, 'used', 9)[1], Paged(start, 1).next_row()[0]]
[('stuck',), ((0, 0, 0), (0, 1, 1), (1, 2, 2)), ('wants', 0)]
""",
    32: r"""
>>> from clankernel.servers import served
>>> [served('counter', ((5, (1, 3, 0, 0)), (None, (1, 65535, 0, 0)), (6, (2, 9, 9, 9)), (6, (7, 0, 0, 0))))[at] for at in (0, 1, 2, 3)]
[(0, 0, 3, 1), (0, 3, 2, 2), (0, 2, 2, 2), (1, 0, 0, 0)]
>>> served('line', ((3, (1, 7, 8, 9)), (None, (1, 4, 4, 4)), (2, (2, 0, 0, 0)), (2, (2, 0, 0, 0)), (2, (2, 0, 0, 0))))
((0, 1, 0, 0), (0, 2, 0, 0), (3, 7, 8, 9), (65535, 4, 4, 4), (65534, 0, 0, 0))
>>> served('names', ((0, (1, 5, 50, 0)), (1, (2, 5, 0, 0)), (1, (1, 5, 51, 0)), (0, (2, 5, 0, 0)), (0, (3, 5, 0, 0)), (0, (2, 5, 0, 0)), (0, (2, 0, 0, 0))))
((0, 0, 0, 0), (0, 50, 0, 0), (0, 0, 0, 0), (0, 51, 0, 0), (0, 0, 0, 0), (3, 0, 0, 0), (1, 0, 0, 0))
""",
    35: r"""
>>> from clankernel.clans import Clans
>>> from clankernel.ever import ever, helpers, reach, shows_ever
>>> from clankernel.rights import Rights
>>> from clankernel.spaces import Spaces
>>> flat, bare_spaces = Clans('clans 3\ntask 0 - none\ntask 1 0 none\ntask 2 0 none'), Spaces('frames 1\ntasks 3')
>>> some = Rights('tasks 3\ngate 1\ngate 2\nnext 2\nright 0 0 0 g0 sg - -\nright 1 1 0 g1 sg - -')
>>> [ever(some, flat, bare_spaces, (0, 1, 2), 0, 'g1', 's')[0], shows_ever(some, flat, bare_spaces, (0, 1, 2), 0, 'g1', 's', ('deeds', (('hand', 1, 0, 'g1', 's'),)))]
['deeds', True]
>>> [ever(some, flat, bare_spaces, (0, 2), 0, 'g1', 's')[0], helpers(some, flat, bare_spaces, (0, 1, 2), 0, 'g1', 's'), reach(some, flat, bare_spaces, (0, 1, 2))[2][0]]
['never', (0, 1), (('g0', 'sg'), ('g1', 'sg'))]
""",
}


class ExamplesTest(unittest.TestCase):
    def test_examples(self):
        known = {}
        for section, text in sorted(EXAMPLES.items()):
            example = doctest.DocTestParser().get_doctest(text, known, f"section {section}", None, 0)
            self.assertTrue(example.examples)
            told = []
            found = doctest.DocTestRunner().run(example, out=told.append, clear_globs=False)
            self.assertEqual(found.failed, 0, "".join(told))
            known = example.globs


if __name__ == "__main__":
    unittest.main()
