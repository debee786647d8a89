"""[5] and [11]: the text of a web."""

import unittest

from pursewebs.errors import TooMuch, WrongKind, WrongText
from pursewebs.web import Web
from pursewebs.webtext import written
from tests.plain import all_webs, some_webs
from tests.refusals import NO_TEXTS, NO_WEBS, Refusals

EXAMPLE = Web([[], [], [1, 0], [1]], [[], [], [1, 0], [3, 1]], [1, 2, 1, 2], [("chips", 0), ("less", 12), None, None])
TEXT = "web 4\n0 1 c0 end\n1 2 l12 end\n2 1 - ; 0 1 ; 0 1\n3 2 - ; 1 ; 1 3\n"


def plain_text(web):
    """The words of [11]."""
    lines = ["web " + str(web.size)]
    for v in range(web.size):
        due = web.dues[v]
        words = [str(v), str(web.marks[v]), "-" if due is None else due[0][0] + str(due[1])]
        if web.first[v]:
            words += [";", *map(str, web.first[v]), ";", *map(str, web.second[v])]
        else:
            words.append("end")
        lines.append(" ".join(words))
    return "".join(line + "\n" for line in lines)


class Texts(Refusals):
    def check(self, web):
        text = written(web)
        self.assertEqual(text, plain_text(web))
        read = Web.from_text(text)
        self.assertTrue(read == web)
        self.assertEqual(written(read), text)

    def test_the_example(self):
        self.assertEqual(written(EXAMPLE), TEXT)
        self.assertTrue(Web.from_text(TEXT) == EXAMPLE)

    def test_written_and_read(self):
        for web in all_webs(1, [None, ("chips", 0), ("less", 0), ("chips", 10 ** 40), ("less", 10 ** 40)]):
            self.check(web)
        for web in all_webs(2, [None]):
            self.check(web)
        for web in some_webs(7, 200, 2):
            self.check(web)
        every = [list(range(60))] * 60
        for web in (Web.line(59), Web.ring(60, 2), Web(every, every, [2] * 60, [("less", 10 ** 40)] * 60)):
            self.check(web)

    def test_equal_webs_have_equal_texts(self):
        one = Web([[1, 0, 1], []], ((0,), ()), [1, 2], [None, ["chips", 3]])
        two = Web(((0, 1), ()), [[0, 0], []], (1, 2), (None, ("chips", 3)))
        self.assertEqual(written(one), written(two))

    def test_every_small_change_is_no_text_or_that_of_another_web(self):
        for at in range(len(TEXT)):
            changed = [TEXT[:at] + TEXT[at + 1:]] + [TEXT[:at] + sign + TEXT[at:] for sign in " \n0-;ce"]
            for text in changed:
                try:
                    web = Web.from_text(text)
                except WrongText:
                    continue
                self.assertEqual(written(web), text)

    def test_wrong_texts(self):
        texts = ["", "\n", "web", "web 0\n", "web 1", "web 1\n", TEXT[:-1], TEXT + "\n", " " + TEXT, TEXT[1:], TEXT + " ",
                 TEXT.replace("\n", "\r\n"), TEXT.replace("\n", "\n\n"), TEXT.replace("web 4", "web 04"),
                 TEXT.replace("web 4", "web 3"), TEXT.replace("web 4", "web 5"), TEXT.replace("web 4", "web  4"),
                 TEXT.replace("web 4", "web 4 "), TEXT.replace("web 4", "web 4 4"), TEXT.replace("web 4", "Web 4"),
                 TEXT.replace("web 4", "web +4"), TEXT.replace("web 4", "web 0_4"), TEXT.replace("web 4", "web \u0664"),
                 TEXT.replace("0 1 c0", "0 3 c0"), TEXT.replace("0 1 c0", "0 0 c0"), TEXT.replace("0 1 c0", "1 1 c0"),
                 TEXT.replace("c0", "c00"), TEXT.replace("c0", "x0"), TEXT.replace("c0", "c-1"),
                 TEXT.replace("l12", "l" + str(10 ** 40 + 1)), TEXT.replace("l12", "l" + "9" * 5000),
                 TEXT.replace("; 0 1 ; 0 1", "; 1 0 ; 0 1"), TEXT.replace("; 0 1 ; 0 1", "; 0 0 ; 0 1"),
                 TEXT.replace("; 0 1 ; 0 1", "; 0 4 ; 0 1"), TEXT.replace("; 0 1 ; 0 1", "; 0 1 ;"),
                 TEXT.replace("; 0 1 ; 0 1", "; 0 1"), TEXT.replace("; 0 1 ; 0 1", "; ; 0 1"),
                 TEXT.replace("; 0 1 ; 0 1", "; ;"), TEXT.replace("; 0 1 ; 0 1", "; 0 1 ; 0 1 ; 0 1"),
                 TEXT.replace("; 0 1 ; 0 1", "0 1 ; 0 1"), TEXT.replace("; 0 1 ; 0 1", "; 0 1 ; 0 1 "),
                 TEXT.replace("; 0 1 ; 0 1", "; 0\t1 ; 0 1"), TEXT.replace("0 1 c0 end", "0 1 c0 end end"),
                 TEXT.replace("0 1 c0 end", "0 1 c0"), TEXT.replace("0 1 c0 end", "0 1 c0 ends"),
                 TEXT.replace("0 1 c0 end", "0 1 end"), "web 99999999999\n0 1 - end\n",
                 "web 61\n" + "".join(f"{v} 1 - end\n" for v in range(61)), "paper 1\nrow 0\nranks 0\n"]
        for text in texts:
            with self.subTest(text=text):
                self.assertNotEqual(text, TEXT)
                self.refused(WrongText, Web.from_text, text)

    def test_the_cause_is_what_int_said(self):
        for text in ("web x\n0 1 - end\n", "web 1\nx 1 - end\n", "web 1\n0 x - end\n", "web 1\n0 1 cx end\n",
                     "web 1\n0 1 l end\n", "web 1\n0 1 - ; x ; 0\n", "web 1\n0 1 - ; 0 ; x\n", "web 1\n0 1 - ;  ; 0\n",
                     "web 1\n0 1 l" + "9" * 5000 + " end\n"):
            error = self.refused(WrongText, Web.from_text, text)
            self.assertIs(type(error.__cause__), ValueError)

    def test_long_texts(self):
        self.refused(WrongText, Web.from_text, "1" * 40000)
        self.refused(TooMuch, Web.from_text, "1" * 40001)
        self.refused(TooMuch, Web.from_text, TEXT + " " * 40000)
        self.refused(WrongText, Web.from_text, "web 1\n0 1 -" + " " * 39983 + "end\n")
        self.refused(WrongText, Web.from_text, "\n" * 40000)

    def test_kinds(self):
        for bad, _ in NO_TEXTS:
            self.refused(WrongKind, Web.from_text, bad)
        for bad, _ in NO_WEBS:
            self.refused(WrongKind, written, bad)


if __name__ == "__main__":
    unittest.main()
