"""Desks: live networks that are changed and asked line by line."""

from bestheard.asking import standing
from bestheard.deciding import delay_of
from bestheard.errors import BestError, Missing
from bestheard.tables import tables_of

# The number of words of each line, the first one included.
COMMANDS = {"cell": 3, "drop": 2, "kind": 3, "tie": 4, "cut": 4}
OTHERS = {"undo": 1, "redo": 1, "value": 2, "cells": 1, "changed": 1, "delay": 1, "standing": 2}


class Desk:
    """A live network that answers lines, and a log of what was said."""

    def __init__(self, live):
        self._live = live
        self._log = []

    def say(self, line):
        """Return the answer to a line."""
        answer = self._answer(line.split(" "))
        self._log.append((line, answer))
        return answer

    def __call__(self, line):
        return self.say(line)

    def live(self):
        """Return the live network itself."""
        return self._live

    def log(self):
        """Return the list of the pairs (line, answer)."""
        return list(self._log)

    def __len__(self):
        return len(self._log)

    def _answer(self, words):
        # No length is 0, so a line with another first word has a wrong number of words.
        length = COMMANDS.get(words[0], OTHERS.get(words[0], 0))
        if len(words) != length or "" in words:
            return "unknown"
        try:
            if words[0] in COMMANDS:
                self._live.apply(tuple(words))
                return "ok"
            return self._answer_other(words)
        except (BestError, Missing) as error:
            return "error " + error.code

    def _answer_other(self, words):
        word = words[0]
        if word == "undo":
            self._live.undo()
            return "ok"
        if word == "redo":
            self._live.redo()
            return "ok"
        if word == "value":
            holding = self._live.value_of(words[1])
            return "nothing" if holding is None else " ".join(holding)
        if word == "cells":
            return _told(self._live.web().cells())
        if word == "changed":
            return _told(self._live.changed)
        tables = tables_of(self._live.book)
        if word == "delay":
            return str(delay_of(tables))
        return str(len(standing(tables, words[1])))


def _told(names):
    return " ".join(names) if len(names) > 0 else "none"
