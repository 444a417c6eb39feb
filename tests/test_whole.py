"""Tests over the whole program: arguments stay, and equal questions have equal answers, whatever is done to them."""

import copy
import inspect
import importlib
import unittest

from bestheard import asking, certificates, deciding, desk, limits, live, pages, rounds, rulebooks, runs, tables
from bestheard.networks import Network
from bestheard.rulebooks import Rulebook
from certificates_case import spoiled
from samples import AGES, DEEP, ECHO, LEVELS, SHORT, TEXT, WIDE

# Where the interface lists which functions and classes.
INTERFACE = {
    "words": "is_name is_option cell_names", "cases": "case_text read_case applied", "rulebooks": "Rulebook",
    "networks": "Network", "tables": "tables_of mixture Tables",
    "rounds": "look one_round rounds_on is_stand empty_state", "runs": "Run", "limits": "limit_rounds possible_pairs",
    "certificates": "Certificate Settles Splits Agree Part Harmless Harmed Firm Swayed Open Hidden",
    "deciding": "decide settles delay_of late_pair stand_of",
    "asking": "standing row_to compare harm sway hidden_way", "live": "Live", "pages": "write_page read_page", "desk": "Desk",
}
PARAMETERS = {
    certificates.Settles: "tables rounds", certificates.Splits: "tables web first second",
    certificates.Agree: "tables others seen rounds", certificates.Part: "tables others seen web first second spot",
    certificates.Harmless: "tables rounds", certificates.Harmed: "tables web extra first second spot",
    certificates.Firm: "tables kind lies rounds",
    certificates.Swayed: "tables kind lies web liars first second spot",
    certificates.Open: "tables standing pairs", certificates.Hidden: "tables web state cells ties",
}


def told(answer):
    """Return a value that says all that an answer says, and shares nothing with it."""
    if isinstance(answer, Network):
        return ("network", answer.text())
    if isinstance(answer, certificates.Certificate):
        names = PARAMETERS[answer.__class__].split()[1:]
        parts = [told(getattr(answer, name)()) for name in names if name != "others"]
        return (repr(answer), bool(answer), answer.holds(), parts)
    if isinstance(answer, (list, tuple)):
        return answer.__class__(told(item) for item in answer)
    if isinstance(answer, dict):
        return {key: told(value) for key, value in answer.items()}
    if isinstance(answer, runs.Run):
        return (repr(answer), answer.phases, [answer.state_at(at) for at in range(len(answer))])
    if isinstance(answer, live.Live):
        return (pages.write_page(answer), answer.stand, answer.changed, answer.limit, answer.history())
    return copy.deepcopy(answer) if isinstance(answer, (int, str, type(None))) else repr(answer)


def ruined(answer):
    """Do to an answer whatever can be done to it."""
    if isinstance(answer, Network):
        for cell in answer.cells():
            answer.drop(cell)
    elif isinstance(answer, certificates.Certificate):
        for name in PARAMETERS[answer.__class__].split():
            if name not in ("tables", "others"):
                ruined(getattr(answer, name)())
    elif isinstance(answer, (list, tuple)):
        for item in answer:
            ruined(item)
        spoiled(answer)
    elif isinstance(answer, dict):
        spoiled(answer)
    elif isinstance(answer, runs.Run):
        answer.step({})
    elif isinstance(answer, live.Live):
        answer.apply(*[("drop", cell) for cell in answer.web().cells()])


def questions(book):
    """Return functions without parameters that ask something about a rulebook."""
    made = tables.tables_of(book)
    kinds = made.kinds()
    network = Network(cells=[(name, kinds[at % len(kinds)]) for at, name in enumerate("abcd")],
                      ties=[(made.ties()[0], one, other) for one, other in ("ab", "bc", "cd", "da", "ac", "dd")])
    empty = rounds.empty_state(network)
    found = [book.fields, book.ties, book.kinds, book.all_values, book.text, made.kinds, made.ties, network.ties,
             lambda: book.order(kinds[0]), lambda: made.order(kinds[0]), lambda: list(network.walk("a")),
             lambda: rounds.one_round(made, network, empty), lambda: rounds.rounds_on(made, network, empty, 5),
             lambda: limits.limit_rounds(made), lambda: limits.possible_pairs(made, limits.limit_rounds(made)[-1]),
             lambda: deciding.decide(made), lambda: deciding.settles(made), lambda: asking.sway(made, kinds[0]),
             lambda: asking.sway(made, kinds[-1], *made.ties()), lambda: runs.Run(made, network, [empty, empty]),
             lambda: tables.mixture(book, book), lambda: deciding.decide(tables.mixture(book, book)), network.clone]
    if deciding.settles(made):
        found += [lambda: deciding.late_pair(made), lambda: deciding.stand_of(made, network), lambda: asking.harm(made),
                  lambda: asking.hidden_way(made), lambda: asking.standing(made, kinds[0]),
                  lambda: asking.row_to(made, kinds[0], None), lambda: asking.compare(book, book),
                  lambda: asking.compare(book, book, seen=[book.fields()[0][0]] * 2),
                  lambda: live.Live(book, network=network), lambda: pages.write_page(live.Live(book, network=network)),
                  lambda: pages.read_page(pages.write_page(live.Live(book, network=network)))]
    return found


class AnswersTest(unittest.TestCase):
    def test_rulebooks_asked_by_turns(self):
        texts = [AGES, ECHO, LEVELS, SHORT, DEEP, WIDE]
        asked = [(questions(book), book) for book in [Rulebook.read(text) for text in texts]]
        first = [[told(question()) for question in found] for found, _ in asked]
        for _ in range(2):
            for at in range(max(len(found) for found, _ in asked)):
                for (found, _), answers in zip(asked, first):
                    if at < len(found):
                        answer = found[at]()
                        self.assertEqual(told(answer), answers[at])
                        ruined(answer)
        self.assertEqual([book.text() for _, book in asked], texts)

    def test_two_readings_of_one_text_give_equal_answers(self):
        for text in (AGES, ECHO, LEVELS):
            one, other = [[told(question()) for question in questions(Rulebook.read(text))] for _ in range(2)]
            self.assertEqual(one, other)


class ArgumentsTest(unittest.TestCase):
    def test_they_stay(self):
        book, other = Rulebook.read(AGES), Rulebook.read(SHORT)
        made, network = tables.tables_of(book), Network.read(TEXT)
        state = {"a": ("0",), "b": None, "c": ("2",), "x": [1]}
        seen, looks, past = ["age", "age"], {"b": [1], "c": [2]}, [state, dict(state)]
        found = limits.limit_rounds(made)
        given = [state, seen, looks, past, found]
        before = copy.deepcopy(given)
        run = runs.Run(made, network, past)
        run.step(looks)
        asking.compare(book, other, seen=seen)
        limits.possible_pairs(made, found[1])
        for call in (rounds.one_round, rounds.is_stand):
            call(made, network, state)
        deciding.stand_of(made, network)
        net = live.Live(book, network=network)
        net.apply(("drop", "a"), ("rules", SHORT))
        desk.Desk(net).say("drop b")
        self.assertEqual(given, before)
        self.assertEqual([network.text(), book.text(), other.text()], [TEXT, AGES, SHORT])
        self.assertTrue(made == tables.tables_of(Rulebook.read(AGES)))

    def test_objects_keep_what_they_were_given(self):
        book, network = Rulebook.read(AGES), Network.read(TEXT)
        made, state = tables.tables_of(book), {"a": ("0",), "b": ("1",), "c": None}
        found = limits.limit_rounds(made)
        kept = [runs.Run(made, network, [state]), live.Live(book, network=network), certificates.Settles(made, found),
                certificates.Splits(made, network, state, state)]
        before = [told(item) for item in kept]
        ruined(network)
        spoiled(state)
        spoiled(found)
        self.assertEqual([told(item) for item in kept], before)


class InterfaceTest(unittest.TestCase):
    def test_all_names_are_defined_in_their_files(self):
        for name, words in INTERFACE.items():
            module = importlib.import_module("bestheard." + name)
            for word in words.split():
                self.assertEqual(getattr(module, word).__module__, "bestheard." + name)
                self.assertEqual(getattr(module, word).__name__, word)

    def test_parameters(self):
        for made, words in PARAMETERS.items():
            self.assertEqual(list(inspect.signature(made).parameters), words.split())
            self.assertEqual(made.__bases__, (certificates.Certificate,))
        for function, expected in (
                (deciding.decide, "(tables)"), (deciding.settles, "(tables)"), (deciding.delay_of, "(tables)"),
                (deciding.late_pair, "(tables)"), (deciding.stand_of, "(tables, network)"),
                (asking.standing, "(tables, kind)"), (asking.row_to, "(tables, kind, holding)"),
                (asking.harm, "(tables)"), (asking.hidden_way, "(tables)"), (limits.limit_rounds, "(tables)"),
                (limits.possible_pairs, "(tables, limits)"), (runs.Run, "(tables, network, past)"),
                (pages.write_page, "(live)"), (pages.read_page, "(text)"), (desk.Desk, "(live)"),
                (rulebooks.Rulebook, "(fields, *, ties, kinds)")):
            self.assertEqual(str(inspect.signature(function)), expected)


if __name__ == "__main__":
    unittest.main()
