"""Tests that the examples of the document hold, for the modules that are there."""

import doctest
import unittest

EXAMPLES = {
    "words and cases": """
>>> from bestheard.cases import applied, read_case
>>> fields = [('age', ('0', '1', '2')), ('via', ('a', 'b'))]
>>> program = (read_case('when age=2 do drop'), read_case('when always do age+, via:b'))
>>> [program[0], applied(fields, program, ('1', 'a')), applied(fields, program, ('2', 'a'))]
[((('age', '=', '2'),), None), ('2', 'b'), None]
""",
    "rulebooks": r"""
>>> from bestheard.rulebooks import Rulebook
>>> text = ('field age 0 1 2\ntie link\nwhen age=2 do drop\nwhen always do age+\n'
...         'cell plain age+\ncell root\nborn 0\n')
>>> book = Rulebook.read(text)
>>> [book.text() == text, book.offer('link', 'plain', ('0',)), book.best('plain', ('2',), None, ('1',))]
[True, ('1',), ('1',)]
>>> book.order('plain')
[('0',), ('1',), ('2',), None]
""",
    "networks": r"""
>>> from bestheard.networks import Network
>>> net = Network.read('cell a root\ncell b plain\ncell c plain\ntie link a b\ntie link b c\n')
>>> net.set_kind('c', 'far')
>>> [list(net.walk('a')), net['c'], 'd' in net, len(net), net.ties_into('b')]
[[('a', 0), ('b', 1), ('c', 2)], 'far', False, 3, [('link', 'a', 'b')]]
""",
    "runs": r"""
>>> from bestheard.networks import Network
>>> from bestheard.rulebooks import Rulebook
>>> from bestheard.runs import Run
>>> from bestheard.tables import tables_of
>>> book = Rulebook.read('field age 0 1 2\ntie link\nwhen age=2 do drop\nwhen always do age+\n'
...                      'cell plain age+\ncell root\nborn 0\n')
>>> net = Network.read('cell a root\ncell b plain\ntie link a b\n')
>>> run = Run(tables_of(book), net, [{'a': None, 'b': ('0',)}])
>>> run.step({'b': [1], 'a': []})
>>> run.step({'b': [1]})
>>> [run.state_at(1), run.now(), run.phases, run.moment]
[{'a': ('0',), 'b': None}, {'a': ('0',), 'b': ('1',)}, 1, 2]
""",
    "limits": r"""
>>> from bestheard.limits import limit_rounds
>>> from bestheard.rulebooks import Rulebook
>>> from bestheard.tables import tables_of
>>> book = Rulebook.read('field age 0 1\ntie link\nwhen age=0 do age+\ncell plain age+\n')
>>> limit_rounds(tables_of(book))
[{'plain': [2, 2, 2]}, {'plain': [-1, 2, 2]}, {'plain': [-1, -1, 2]}]
""",
    "deciding": r"""
>>> from bestheard.deciding import decide, delay_of
>>> from bestheard.rulebooks import Rulebook
>>> from bestheard.tables import tables_of
>>> aging = Rulebook.read('field age 0 1\ntie link\nwhen age=0 do age+\ncell plain age+\n')
>>> echo = Rulebook.read('field age 0 1\ntie link\nwhen always do keep\ncell plain age+\n')
>>> aging, echo = tables_of(aging), tables_of(echo)
>>> [decide(aging).told(), delay_of(aging), decide(echo).told(), decide(echo).holds()]
['settles', 2, 'splits', True]
""",
    "asking": r"""
>>> from bestheard.asking import harm, hidden_way, row_to, standing, sway
>>> from bestheard.rulebooks import Rulebook
>>> from bestheard.tables import tables_of
>>> book = Rulebook.read('field age 0 1 2\ntie link\nwhen age=2 do drop\nwhen always do age+\n'
...                      'cell plain age+\ncell root\nborn 0\n')
>>> tables = tables_of(book)
>>> net, cell = row_to(tables, 'plain', ('2',))
>>> [standing(tables, 'plain'), net.text(), cell]
[[('1',), ('2',), None], 'cell a root\ncell b plain\ncell c plain\ntie link a b\ntie link b c\n', 'c']
>>> [harm(tables).told(), sway(tables, 'plain', 'link').told(), sway(tables, 'root', 'link').told()]
['harmless', 'swayed', 'firm']
>>> hidden_way(tables).told()
'open'
""",
    "desk": r"""
>>> from bestheard.desk import Desk
>>> from bestheard.live import Live
>>> from bestheard.rulebooks import Rulebook
>>> book = Rulebook.read('field age 0 1 2\ntie link\nwhen age=2 do drop\nwhen always do age+\n'
...                      'cell plain age+\ncell root\nborn 0\n')
>>> desk = Desk(Live(book))
>>> [desk.say('cell a root'), desk.say('cell b plain'), desk.say('tie link a b'), desk.say('value b')]
['ok', 'ok', 'ok', '1']
>>> desk.say('changed')
'b'
>>> [desk.say('delay'), desk.say('value c'), desk('kind a plain'), len(desk)]
['3', 'error UnknownCell', 'ok', 8]
""",
    "reprs": r"""
>>> from bestheard.networks import Network
>>> from bestheard.rulebooks import Rulebook
>>> from bestheard.tables import tables_of
>>> book = Rulebook.read('field a 0 1\nfield b 0 1\ntie t\nwhen always do keep\ncell k\n')
>>> book
Rulebook(2 fields, 1 ties, 1 kinds)
>>> Network.read('cell a root\ncell b plain\ncell c plain\ntie link a b\ntie link b c\n')
Network(3 cells, 2 ties)
>>> tables_of(Rulebook.read('field a 0 1 2\ntie t\nwhen always do keep\ncell k\ncell l\ncell m\n'))
Tables(3 kinds, 1 ties, 4 places)
>>> from bestheard.certificates import Settles
>>> Settles(tables_of(book), [])
Certificate(settles)
>>> from bestheard.runs import Run
>>> Run(tables_of(book), Network.read('cell a k\ncell b k\ncell c k\n'), [{'a': None, 'b': None, 'c': None}] * 5)
Run(3 cells, moment 4)
>>> from bestheard.live import Live
>>> drop = Rulebook.read('field a 0 1\ntie t\nwhen always do drop\ncell k\n')
>>> Live(drop, network=Network.read('cell a k\ncell b k\ncell c k\ntie t a b\ntie t b c\n'))
Live(3 cells, 2 ties)
""",
}


class DocumentTest(unittest.TestCase):
    def test_examples(self):
        for name, text in EXAMPLES.items():
            example = doctest.DocTestParser().get_doctest(text, {}, name, None, 0)
            found = doctest.DocTestRunner().run(example)
            self.assertEqual([name, found.failed], [name, 0])
            self.assertGreater(found.attempted, 0)


if __name__ == "__main__":
    unittest.main()
