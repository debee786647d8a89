"""[5], [63] and [66]: the texts of plays, and plays that are stopped, written, read back and gone on with."""

import unittest

from pursewebs.errors import TooMuch, WrongDeed, WrongKind, WrongNumber, WrongText
from pursewebs.falling import falling
from pursewebs.plans import FirstPlan, SecondPlan
from pursewebs.play import Play, play_on
from pursewebs.playtext import play_from_text, play_written
from pursewebs.rounds import number_row
from pursewebs.web import Web
from tests import plain
from tests.refusals import NO_TEXTS, NO_WEBS, Refusals

GREAT = 10 ** 40
LINE = Web.line(3)
TEXT = "play 3 2 1\nmove 0 0 1\nmove 1 1 0\nclaim\n"
RING = Web.ring(1)


def webs():
    return list(plain.all_webs(1, [None, ("chips", 1), ("less", 1)])) + list(plain.some_webs(3, 60, 51)) + [
        LINE, Web.line(3, 2), Web.ring(2)]


def plain_text(play):
    """The words of [63]."""
    first = next(iter(play))
    deeds = [f"move {p} {q} {step}\n" for p, q, step in play.moves] + (["claim\n"] if play.claimed else [])
    return f"play {play.chips} {first[0]} {first[1]}\n" + "".join(deeds)


def plans(web, k):
    row = number_row(web, k)
    return FirstPlan(web, k, row, falling(web, k, row)[0]), SecondPlan(web, k, row)


def long_play(dear, cheap):
    """A play whose text has 13 + 12 * dear + 11 * cheap signs."""
    play = Play(RING, 99, 0, 99)
    for number in range(dear + cheap):
        play.move(10 if number < dear else 0, 0, 0)
    return play


class Texts(Refusals):
    def both_ways(self, play):
        text = play_written(play)
        self.assertEqual(text, plain_text(play))
        again = play_from_text(play.web, text)
        self.assertTrue(again == play)
        self.assertEqual((list(again), again.over, again.winner), (list(play), play.over, play.winner))

    def test_plays_of_all_kinds(self):
        for web in webs():
            first, second = plans(web, 3)
            for v, a in plain.states(web, 3):
                self.both_ways(Play(web, 3, v, a))
                for most in (1, 2, 5):
                    self.both_ways(play_on(Play(web, 3, v, a), first, second, most))

    def test_claims(self):
        play = play_from_text(LINE, TEXT)
        self.assertEqual((play.claimed, play.over, play.winner, play.moves), (True, True, 1, ((0, 0, 1), (1, 1, 0))))
        self.both_ways(play)
        play.back()
        self.assertEqual(play_written(play), TEXT[:-6])
        self.both_ways(play)
        self.assertEqual(play_written(Play(LINE, 0, 0, 0)), "play 0 0 0\n")
        at_once = Play(LINE, 2, 0, 0)
        at_once.claim()
        self.assertEqual(play_written(at_once), "play 2 0 0\nclaim\n")
        self.both_ways(at_once)

    def test_plays_that_are_over(self):
        lost = Play(LINE, 3, 2, 1)
        lost.move(0, 2, 3)
        self.assertEqual((lost.over, lost.winner), (True, 2))
        self.both_ways(lost)
        self.both_ways(Play(LINE, 3, 3, 3))

    def test_many_chips(self):
        play = Play(LINE, GREAT, 2, GREAT)
        play.move(GREAT, 0, 1)
        self.assertEqual(play_written(play), f"play {GREAT} 2 {GREAT}\nmove {GREAT} 0 1\n")
        self.both_ways(play)

    def test_long_texts(self):
        exact = long_play(2, 3633)
        self.assertEqual(len(play_written(exact)), 40000)
        self.both_ways(exact)
        longer = long_play(3, 3632)
        self.assertEqual(len(play_written(longer)), 40001)
        self.refused(TooMuch, play_from_text, RING, play_written(longer))
        self.refused(TooMuch, play_from_text, RING, "x" * 40001)
        self.refused(WrongText, play_from_text, RING, "x" * 40000)

    def test_wrong_texts(self):
        texts = ["", "\n", "play", "play\n", "play 3 2\n", "play 3 2 1", "play 3 2 1 0\n", TEXT[:-1], TEXT + "\n",
                 "\n" + TEXT, " " + TEXT, TEXT + " ", TEXT[1:], TEXT.replace("\n", "\r\n"), TEXT.replace("\n", "\n\n"),
                 TEXT.replace(" ", "  "), TEXT.replace("\n", " \n"), TEXT.replace("play 3", "play 03"),
                 TEXT.replace("play 3", "play +3"), TEXT.replace("play 3", "play -3"), TEXT.replace("play 3", "play x"),
                 TEXT.replace("play 3", "play 3_0"), TEXT.replace("play 3", "play \u0663"), TEXT.replace("play", "Play"),
                 TEXT.replace("play", "plays"), TEXT.replace("move", "moved"), TEXT.replace("move 0 0 1", "move 0 0"),
                 TEXT.replace("move 0 0 1", "move 0 0 1 1"), TEXT.replace("move 0 0 1", "move 0 -0 1"),
                 TEXT.replace("move 0 0 1", "move 00 0 1"), TEXT.replace("claim", "claims"), TEXT + "claim\n",
                 TEXT + "move 0 0 1\n", TEXT.replace("claim", "claim "), TEXT.replace("claim\n", "claim\nclaim\n"),
                 "claim\n", "claim\n" + TEXT, "move 0 0 1\n", "play 3 2 1\nclaim\nmove 0 0 1\n",
                 f"play {GREAT + 1} 2 1\n", "play 3 4 1\n", "play 3 2 4\n", "play 3 2 1\nplay 3 2 1\n",
                 "play 3 2 " + "9" * 5000 + "\n", "web 1\n0 1 - end\n"]
        for text in texts:
            with self.subTest(text=text):
                self.assertNotEqual(text, TEXT)
                self.refused(WrongText, play_from_text, LINE, text)

    def test_the_cause_is_the_first_wrong_deed(self):
        causes = [("move 2 0 1\n", WrongNumber), ("move 0 3 1\n", WrongNumber), ("move 0 0 0\n", WrongDeed),
                  ("move 0 0 2\n", WrongDeed), ("move 0 1 0\n", WrongDeed), ("claim\n", WrongDeed),
                  ("move 0 2 3\nmove 0 0 2\n", WrongDeed), ("move 0 2 3\nmove 4 0 2\n", WrongNumber),
                  ("move 0 2 3\nclaim\n", WrongDeed), ("move 0 0 1\nclaim\n", WrongDeed),
                  ("move 0 0 0\nmove 9 9 9\nclaim\n", WrongDeed), ("move 9 9 9\nmove 0 0 0\nclaim\n", WrongNumber),
                  ("move 0 0 3\nmove 9 9 9\nclaim\n", WrongNumber), ("move 0 0 3\nmove 0 0 2\nclaim\n", WrongDeed),
                  ("move 0 0 1\nmove 0 0 0\nmove 0 0 1\n", WrongDeed), (f"move {GREAT * 10} 0 1\n", WrongNumber)]
        for deeds, cause in causes:
            error = self.refused(WrongText, play_from_text, LINE, "play 3 2 1\n" + deeds)
            self.assertIs(type(error.__cause__), cause, deeds)
            self.assertTrue(error.__cause__.args[0])

    def test_the_web_counts(self):
        text = "play 3 2 1\nmove 0 0 1\n"
        self.assertEqual(play_from_text(LINE, text).stand, 1)
        steps = [[[], [0], [1], []], [[], [2], [3], []]]
        self.assertEqual(play_from_text(Web(*steps, [1] * 4, [None] * 4), text).stand, 1)
        self.refused(WrongText, play_from_text, Web(*steps, [2] * 4, [None] * 4), text)
        self.refused(WrongText, play_from_text, Web.line(1), text)

    def test_refusals(self):
        wrong = [("play 3 2 1", "h"), (TEXT + "\n", "h")]
        self.each_fault(play_from_text, [LINE, TEXT], [NO_WEBS, NO_TEXTS + wrong + [("p" * 40001, "f")]])
        for bad in (None, 5, LINE, TEXT, Play, [(2, 1)]):
            self.refused(WrongKind, play_written, bad)

    def test_writing_changes_nothing(self):
        play = play_from_text(LINE, TEXT)
        before = play.copy()
        self.assertEqual(play_written(play), play_written(play))
        self.assertTrue(play == before)


class CutPlays(Refusals):
    def test_stopped_written_and_gone_on_with(self):
        for web in webs():
            first, second = plans(web, 3)
            for v, a in plain.states(web, 3)[::2]:
                whole = play_on(Play(web, 3, v, a), first, second, 6)
                cut = whole.copy()
                while cut.steps or cut.claimed:
                    cut.back()
                    again = play_from_text(web, play_written(cut))
                    self.assertTrue(play_on(again, first, second, whole.steps - cut.steps) == whole)

    def test_taking_back_what_was_read(self):
        play = play_from_text(LINE, TEXT)
        texts = [TEXT, TEXT[:-6], "play 3 2 1\nmove 0 0 1\n", "play 3 2 1\n"]
        told = []
        for text in texts[:-1]:
            self.assertEqual(play_written(play), text)
            told.append(play.back())
        self.assertEqual((play_written(play), told), (texts[-1], ["claim", (1, 1, 0), (0, 0, 1)]))
        self.refused(WrongDeed, play.back)


if __name__ == "__main__":
    unittest.main()
