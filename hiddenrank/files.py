"""The text of a ledger: a line for the schema, a line for the effects, and a line for each deed."""

from hiddenrank.commands import command_text, parse_command
from hiddenrank.errors import InvalidFile, NotFound, RankError
from hiddenrank.ledgers import Ledger
from hiddenrank.schemas import Schema


def schema_line(schema):
    """Returns the line of a schema."""
    words = ["schema"]
    for field in schema.fields():
        values = ",".join(schema.values_of(field))
        words.append(f"{field}={values}")
    return " ".join(words)


def effects_line(effects):
    """Returns the line of some effects."""
    return " ".join(["effects", *effects])


def dump(ledger):
    """Returns the text of a ledger."""
    lines = [schema_line(ledger.schema()), effects_line(ledger.effects())]
    lines.extend([command_text(command) for command in ledger.deeds()])
    return "".join([line + "\n" for line in lines])


def described_field(word):
    """Returns the pair of the name and the list of the values that a word of the first line describes."""
    name, sign, values = word.partition("=")
    return (name, values.split(","))


# Each line is read as what it may describe, and then compared with the line that this has in the text of a ledger.
# So whatever is written in another way is refused, and the functions that read need not look at everything.


def read_schema(line):
    """Returns the schema of the first line."""
    try:
        schema = Schema([described_field(word) for word in line.split(" ")[1:]])
    except (RankError, NotFound):
        raise InvalidFile(0) from None
    if schema_line(schema) != line:
        raise InvalidFile(0)
    return schema


def read_effects(schema, line):
    """Returns the empty ledger with a schema and the effects of the second line."""
    try:
        ledger = Ledger(schema, line.split(" ")[1:])
    except (RankError, NotFound):
        raise InvalidFile(1) from None
    if effects_line(ledger.effects()) != line:
        raise InvalidFile(1)
    return ledger


def read_deed(ledger, line, at):
    """Does the deed of the line with an index."""
    try:
        ledger.apply(parse_command(line))
    except (RankError, NotFound):
        raise InvalidFile(at) from None
    if command_text(ledger.deeds()[-1]) != line:
        raise InvalidFile(at)


def load(text):
    """Returns the ledger that a text describes."""
    lines = text.split("\n")
    unended = lines.pop()
    if len(lines) < 1:
        raise InvalidFile(0)
    schema = read_schema(lines[0])
    if len(lines) < 2:
        raise InvalidFile(1)
    ledger = read_effects(schema, lines[1])
    for at, line in enumerate(lines):
        if at > 1:
            read_deed(ledger, line, at)
    if unended != "":
        raise InvalidFile(len(lines))
    ledger.forget_steps()
    return ledger
