"""Consoles: lines of text that change a ledger or ask it something, and their answers."""

from hiddenrank.commands import listed, parse_command
from hiddenrank.errors import InvalidText, NotFound, RankError

DONE = "done"
UNKNOWN = "unknown"
DIGITS = "0123456789"

# How many words each line has that is no command: those about the present moment only, and those about any moment.
PRESENT_LENGTHS = {"undo": 1, "redo": 1, "rules": 1, "rule": 2, "moment": 1}
TIMED_LENGTHS = {"outcomes": 2, "deciders": 2, "stronger": 3, "idle": 1}


def is_number(word):
    """Returns whether a word that is not empty is a number of a moment as a line may write it."""
    if len(word) > 3 or not all([character in DIGITS for character in word]):
        return False
    return word == "0" or not word.startswith("0")


def is_present_line(words):
    """Returns whether words are a line about the present moment only."""
    return words[0] in PRESENT_LENGTHS and len(words) == PRESENT_LENGTHS[words[0]]


def is_timed_query(words):
    """Returns whether words are a query that may be about any moment."""
    if words[0] not in TIMED_LENGTHS or len(words) != TIMED_LENGTHS[words[0]]:
        return False
    return words[0] not in ("outcomes", "deciders") or listed(words[1]) is not None


def joined_names(names):
    """Returns names separated by spaces, or `none` if there are none."""
    if len(names) == 0:
        return "none"
    return " ".join(names)


def answer_present(ledger, words):
    """Returns the answer to a line about the present moment only."""
    word = words[0]
    if word == "rules":
        return joined_names(ledger.names())
    if word == "moment":
        return str(ledger.present())
    if word == "rule":
        condition, effect = ledger.rule(words[1])
        return f"{effect} {condition}"
    if word == "undo":
        ledger.undo()
    else:
        ledger.redo()
    return DONE


def answer_timed(ledger, words, moment):
    """Returns the answer to a query for a moment."""
    word = words[0]
    if word == "outcomes":
        return " ".join(ledger.outcomes(listed(words[1]), moment=moment))
    if word == "deciders":
        return joined_names(ledger.deciders(listed(words[1]), moment=moment))
    if word == "stronger":
        return ledger.stronger(words[1], words[2], moment=moment)
    return joined_names(ledger.idle(moment=moment))


def answer_words(ledger, words):
    """Returns the answer to a line that is not the text of a command."""
    if "" in words:
        return UNKNOWN
    if is_present_line(words):
        return answer_present(ledger, words)
    if is_timed_query(words):
        return answer_timed(ledger, words, None)
    if words[0] == "at" and len(words) > 2 and is_number(words[1]) and is_timed_query(words[2:]):
        return answer_timed(ledger, words[2:], int(words[1]))
    return UNKNOWN


def answer_line(ledger, line):
    """Returns the answer to a line, or raises the error of what it does or asks."""
    try:
        command = parse_command(line)
    except InvalidText:
        return answer_words(ledger, line.split(" "))
    ledger.apply(command)
    return DONE


class Console:
    """Runs lines on a ledger, which others may change too, and keeps them with their answers."""

    def __init__(self, ledger):
        self.held = ledger
        self.entries = []

    def __len__(self):
        return len(self.entries)

    def run(self, line):
        """Runs a line and returns its answer."""
        try:
            answer = answer_line(self.held, line)
        except (RankError, NotFound) as error:
            answer = f"error {error.word}"
        self.entries.append((line, answer))
        return answer

    def ledger(self):
        """Returns the ledger itself."""
        return self.held

    def log(self):
        """Returns the list of all pairs (line, answer)."""
        return list(self.entries)
