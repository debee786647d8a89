"""Every example that the interface shows for the modules that are there, word for word."""

import os
import unittest

from pursewebs import errors

EXAMPLES = os.path.join(os.path.dirname(__file__), "examples.txt")


def examples():
    with open(EXAMPLES, encoding="ascii") as file:
        blocks = file.read().split("~~~ ")[1:]
    return [block.rstrip("\n").split("\n") for block in blocks]


class Examples(unittest.TestCase):
    def test_each(self):
        blocks = examples()
        self.assertEqual(len(blocks), 53)
        for name, *lines in blocks:
            with self.subTest(module=name, lines=lines):
                self.check(lines)

    def check(self, lines):
        names = {}
        codes = [line[4:] for line in lines if line.startswith(">>> ")]
        told = lines[-1]
        self.assertEqual(len(codes), len(lines) - 1)
        for code in codes[:-1]:
            exec(code, names)
        if told.startswith("raises "):
            with self.assertRaises(getattr(errors, told[7:])) as caught:
                eval(codes[-1], names)
            self.assertIs(type(caught.exception), getattr(errors, told[7:]))
        else:
            self.assertEqual(repr(eval(codes[-1], names)), told)


if __name__ == "__main__":
    unittest.main()
