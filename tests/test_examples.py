"""Every example that the interface shows, as written."""

import pathlib
import re
import unittest

from hiddenrank import errors
from tests.support import fields_of

SOURCE = pathlib.Path(__file__).with_name("interface_examples.md")


def examples():
    """The examples, each one as a list of statements and the expected answer."""
    for block in re.findall(r"```\n(.*?)```", SOURCE.read_text(encoding="utf-8"), re.DOTALL):
        lines = block.splitlines()
        statements = [line[4:] for line in lines if line.startswith(">>> ")]
        yield statements, "\n".join(line for line in lines if not line.startswith(">>> "))


class Examples(unittest.TestCase):
    def test_every_example(self):
        found = list(examples())
        self.assertEqual(len(found), 78)
        for statements, expected in found:
            with self.subTest("\n".join(statements)):
                names = {}
                for statement in statements[:-1]:
                    exec(statement, names)
                if expected.startswith("raises "):
                    self.check_error(statements[-1], names, expected)
                else:
                    self.assertEqual(repr(eval(statements[-1], names)), expected)

    def check_error(self, statement, names, expected):
        kind, arguments = re.fullmatch(r"raises (\w+)(?:\((.*)\))?", expected).groups()
        with self.assertRaises(getattr(errors, kind)) as caught:
            eval(statement, names)
        if arguments is not None:
            self.assertEqual(fields_of(caught.exception), eval(f"dict({arguments})"))


if __name__ == "__main__":
    unittest.main()
