"""A shell: a bench that is worked on by lines of text."""

from wheelgrown.errors import InvalidOperation, InvalidPlace, InvalidStep, InvalidTie, InvalidWeb
from wheelgrown.errors import NothingToUndo, ParseError, Refused, TooMany, UnknownName
from wheelgrown.text.commands import command_told, pledge_line
from wheelgrown.text.texts import read_web
from wheelgrown.use.bench import Bench

NO_COMMAND = "what"


class Shell:
    """A bench that is worked on by commands. A shell changes."""

    def __init__(self, text):
        self._bench = Bench(read_web(text))
        self._answered = []

    def __call__(self, line):
        return self.answer(line)

    def answer(self, line):
        """The answer to a command."""
        command = command_told(line)
        if command is None:
            return NO_COMMAND
        act, passed = command
        try:
            told = act(self._bench, *passed)
        except InvalidPlace:
            return "place"
        except InvalidTie:
            return "tie"
        except InvalidWeb:
            return "web"
        except InvalidStep:
            return "step"
        except InvalidOperation:
            return "operation"
        except UnknownName:
            return "unknown"
        except ParseError:
            return "line"
        except NothingToUndo:
            return "undo"
        except TooMany as excess:
            return f"many {excess.limit}"
        except Refused as refusal:
            return f"refused {pledge_line(refusal.pledge)}"
        self._answered.append(line)
        return told

    def bench(self):
        """A twin of the bench."""
        return self._bench.twin()

    def __len__(self):
        return len(self._answered)
