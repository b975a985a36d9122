"""Commands: the form of their tuples, and their texts."""

from hiddenrank.errors import InvalidCommand, InvalidText

# How many elements the tuple of each command has, its first word included.
LENGTHS = {
    "add": 4, "rewrite": 4, "drop": 2, "raise": 2, "lower": 2, "above": 3, "below": 3, "swap": 3, "observe": 3,
    "compare": 3,
}


def check_form(command):
    """Raises InvalidCommand for a tuple with another first element or another number of elements."""
    if len(command) == 0 or command[0] not in LENGTHS or len(command) != LENGTHS[command[0]]:
        raise InvalidCommand()


def command_text(command):
    """Returns the text of a command."""
    check_form(command)
    word = command[0]
    if word in ("add", "rewrite"):
        return f"{word} {command[1]} {command[3]} {command[2]}"
    if word == "observe":
        request = ",".join(command[1])
        outcomes = ",".join(command[2])
        return f"{word} {request} {outcomes}"
    return " ".join(command)


def words_of(text):
    """Returns the list of the words of a text that may describe a command, as many as its command has elements."""
    word = text.split(" ")[0]
    if word not in LENGTHS:
        raise InvalidText()
    # The fourth word of a text can only be a condition, which is the rest of the text and may contain spaces.
    words = text.split(" ", 3)
    if len(words) != LENGTHS[word] or "" in words:
        raise InvalidText()
    return words


def listed(word):
    """Returns the tuple of the strings that a word lists, or None if one of them is empty."""
    strings = word.split(",")
    if "" in strings:
        return None
    return tuple(strings)


def parse_command(text):
    """Returns the command that a text describes."""
    words = words_of(text)
    word = words[0]
    if word in ("add", "rewrite"):
        return (word, words[1], words[3], words[2])
    if word != "observe":
        return tuple(words)
    request = listed(words[1])
    outcomes = listed(words[2])
    if request is None or outcomes is None:
        raise InvalidText()
    return (word, request, outcomes)
