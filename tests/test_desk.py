"""[168] and [169]: desks, their deeds and questions."""

import random
import time
import unittest

from pursewebs.builders import chain, with_due
from pursewebs.desk import Desk
from pursewebs.dues import due_word
from pursewebs.errors import PurseError, TooMuch, WrongDeed, WrongKind, WrongNumber, WrongWeb
from pursewebs.paper import Paper
from pursewebs.plans import FirstPlan
from pursewebs.play import Play
from pursewebs.rules import BankRule, HandRule, Rule, TokenRule, TurnsRule, rule_named
from pursewebs.slips import slips
from pursewebs.table import Table
from pursewebs.web import Web
from tests import plain, plain_rules
from tests.refusals import NO_DUES, NO_INTEGERS, NO_WEBS, WRONG_DUES, Refusals, numbers, too_much

GREAT = 10 ** 40
LINE = Web.line(3)
UNEVEN = Web([[], [0, 1], [1], []], [[], [1], [0, 2], []], [1, 2, 1, 1], [("chips", 0), None, ("less", 1), None])
STANDS = NO_INTEGERS + numbers(-1, 4, 10 ** 50)
NO_RULES = [(bad, "a") for bad in (5, True, "hand", [], Rule(), HandRule, LINE)]
UNFIT = [(TurnsRule(), "b"), (TokenRule(), "b")]
HANDS = NO_INTEGERS + numbers(0, 3, -1, 10 ** 50)


def shown(desk):
    """All that a desk tells of itself."""
    play = desk.played() if desk.rule.word == "hand" else None
    told = None if play is None else (play.moves, play.claimed, tuple(play), play.chips)
    return (desk.web, desk.chips, desk.stand, desk.purse, desk.rule.word, desk.log, desk.over, desk.winner, told)


class Model:
    """A desk by the words of [168] and the interface; each deed keeps a picture of what was before."""

    def __init__(self, web, k, stand, purse, word):
        self.web, self.k, self.word, self.log, self.before = web, k, word, (), []
        self.begin(stand, purse)

    def begin(self, stand, purse):
        self.first, self.moves, self.claimed, self.stand, self.purse = (stand, purse), (), False, stand, purse

    def kept(self):
        return {name: part for name, part in vars(self).items() if name != "before"}

    def done(self, text, **changes):
        self.before.append(self.kept())
        self.log += (text,)
        for name, part in changes.items():
            setattr(self, name, part)

    def over(self):
        return self.word == "hand" and (self.claimed or (not self.web.first[self.stand] and not self.can_claim()))

    def can_claim(self):
        return self.purse >= plain.due_number(self.web.dues[self.stand], self.k)

    def winner(self):
        return 0 if not self.over() else 1 if self.claimed else 2

    def bid(self, p, q, step):
        gets = plain.first_gets(self.web, self.stand, p, q)
        self.done(f"bid {p} {q} {step}", moves=self.moves + ((p, q, step),), stand=step,
                  purse=self.purse - p if gets else self.purse + q)
        return (self.stand, self.purse)

    def claim(self):
        self.done("claim", claimed=True)

    def chips(self, name, count, hand, sign):
        unit = 2 if self.word == "token" else 1
        purse = self.purse + sign * count * unit if hand == 1 else self.purse
        self.done(f"{name} {count} {hand}", k=self.k + sign * count)
        self.begin(self.stand, purse)

    def set_due(self, stand, due):
        self.done(f"set_due {stand} {due_word(due)}", web=with_due(self.web, stand, due))
        self.begin(self.stand, self.purse)

    def set_mark(self, stand, mark):
        web = self.web
        marks = [mark if v == stand else old for v, old in enumerate(web.marks)]
        self.done(f"set_mark {stand} {mark}", web=Web(web.first, web.second, marks, web.dues))
        self.begin(self.stand, self.purse)

    def set_rule(self, word):
        purse = self.purse
        if self.word == "token" and word != "token":
            purse = purse // 2
        if self.word != "token" and word == "token":
            purse = 2 * purse
        self.done(f"set_rule {word}", word=word)
        self.begin(self.stand, purse)

    def place(self, stand, purse):
        self.done(f"place {stand} {purse}")
        self.begin(stand, purse)

    def back(self):
        kept = self.before.pop()
        text = self.log[-1]
        for name, part in kept.items():
            setattr(self, name, part)
        return text

    def shown(self):
        told = None
        if self.word == "hand":
            play = Play(self.web, self.k, *self.first)
            for move in self.moves:
                play.move(*move)
            if self.claimed:
                play.claim()
            told = (play.moves, play.claimed, tuple(play), play.chips)
        return (self.web, self.k, self.stand, self.purse, self.word, self.log, self.over(), self.winner(), told)

    def deeds(self, chance):
        """A deed that is allowed now: its name and its arguments."""
        web, found = self.web, []
        if self.word == "hand" and not self.over():
            if web.first[self.stand]:
                p, q = chance.randint(0, self.purse), chance.randint(0, self.k - self.purse)
                gets = plain.first_gets(web, self.stand, p, q)
                found += [("bid", p, q, chance.choice((web.first if gets else web.second)[self.stand]))] * 8
            if self.can_claim():
                found += [("claim",)] * 2
        chips = self.purse // 2 if self.word == "token" else self.purse
        for hand, most in ((1, chips), (2, self.k - chips)):
            found.append(("chips_in", chance.randint(1, 3), hand))
            if most:
                found.append(("chips_out", chance.randint(1, most), hand))
        v = chance.randrange(web.size)
        found.append(("set_due", v, chance.choice((None, ("chips", 0), ("chips", 2), ("less", 1)))))
        found.append(("set_mark", v, chance.choice((1, 2))))
        words = plain_rules.WORDS if web.even else ("hand", "bank")
        found += [("set_rule", chance.choice(words))] * 2
        found.append(("place", v, chance.randint(0, plain_rules.greatest_purse(self.word, self.k))))
        if self.log:
            found += [("back",)] * 3
        return chance.choice(found)


def do(thing, deed):
    """Do a deed on a desk or on a model."""
    name, *args = deed
    if isinstance(thing, Model) and name in ("chips_in", "chips_out"):
        return thing.chips(name, *args, 1 if name == "chips_in" else -1)
    if isinstance(thing, Desk) and name == "set_rule":
        return thing.set_rule(rule_named(args[0]))
    return getattr(thing, name)(*args)


def begun(many=25):
    """Desks under each rule with their models."""
    chance = random.Random(280)
    webs = [web for size in (1, 2, 3) for web in plain.some_webs(size, many, 280 + size)] + [LINE, Web.line(3, 2), UNEVEN]
    for at, web in enumerate(webs):
        web = web if at % 2 else Web(web.first, web.first, web.marks, web.dues)
        for word in plain_rules.WORDS if web.even else ("hand", "bank"):
            k = chance.randint(0, 4)
            v, purse = chance.randrange(web.size), chance.randint(0, plain_rules.greatest_purse(word, k))
            yield Desk(web, k, v, purse, rule=rule_named(word)), Model(web, k, v, purse, word), chance


class Deeds(Refusals):
    def same(self, one, two):
        self.assertTrue(one[0] == two[0])
        self.assertEqual(one[1:], two[1:])

    def test_many_deeds(self):
        names = {}
        for desk, model, chance in begun():
            self.same(shown(desk), model.shown())
            for _ in range(25):
                deed = model.deeds(chance)
                names[deed[0], model.word, model.over()] = True
                self.assertEqual(do(desk, deed), do(model, deed))
                self.same(shown(desk), model.shown())
            while model.log:
                self.assertEqual(desk.back(), model.back())
                self.same(shown(desk), model.shown())
            self.refused(WrongDeed, desk.back)
        self.assertGreater(len(names), 35)
        self.assertTrue(all((name, "hand", True) in names for name in (
            "chips_in", "chips_out", "set_due", "set_mark", "set_rule", "place", "back")))

    def test_what_a_desk_tells(self):
        """[169]: what a new desk tells behind the moves of its play."""
        for desk, model, chance in begun(10):
            for _ in range(6):
                do(desk, deed := model.deeds(chance))
                do(model, deed)
                before = shown(desk)
                fresh = Desk(model.web, model.k, *model.first, rule=rule_named(model.word))
                for move in model.moves:
                    fresh.bid(*move)
                row = plain_rules.numbers(model.word, model.web, model.k)
                self.assertEqual((desk.numbers(), desk.number()), (row, row[model.stand]))
                self.assertEqual(desk.whose(), 1 if model.purse >= row[model.stand] else 2)
                self.assertEqual(desk.advice(), plain_rules.advice(model.word, model.web, model.k, model.stand, model.purse))
                for name in ("numbers", "number", "whose", "advice"):
                    self.assertEqual(getattr(desk, name)(), getattr(fresh, name)())
                if model.word == "hand":
                    self.check_play(desk, model)
                else:
                    for name in ("slips", "played", "paper", "table", "steps_left", "claim"):
                        self.refused(WrongDeed, getattr(desk, name))
                self.same(shown(desk), before)

    def check_play(self, desk, model):
        play = desk.played()
        self.assertEqual(desk.slips(), slips(play))
        paper = Paper.exact(model.web, model.k)
        self.assertTrue(desk.paper() == paper and desk.table() == Table.least(model.web))
        left = FirstPlan(model.web, model.k, paper.row, paper.ranks).steps_left(model.stand, model.purse)
        self.assertEqual(desk.steps_left(), left)
        play.claim() if not play.over and model.can_claim() else None
        self.assertEqual((desk.over, desk.winner), (model.over(), model.winner()))

    def test_chips_in_raise_numbers_by_little(self):
        for desk, model, chance in begun(12):
            before = desk.numbers()
            count, hand = chance.randint(1, 4), chance.choice((1, 2))
            desk.chips_in(count, hand)
            most = 2 * count if model.word == "token" else count
            self.assertTrue(all(0 <= two - one <= most for one, two in zip(before, desk.numbers())))

    def test_copies(self):
        for desk, model, chance in begun(12):
            for _ in range(8):
                do(desk, deed := model.deeds(chance))
                do(model, deed)
            other = desk.copy()
            self.same(shown(other), model.shown())
            for _ in range(12):
                if other.log and chance.random() < 0.7:
                    other.back()
                elif not other.over and other.rule.word == "hand" and other.web.first[other.stand]:
                    first = plain.first_gets(other.web, other.stand, 0, 0)
                    other.bid(0, 0, (other.web.first if first else other.web.second)[other.stand][0])
                self.same(shown(desk), model.shown())
            third = desk.copy()
            while model.log:
                self.assertEqual(desk.back(), model.back())
                self.same(shown(desk), model.shown())
            self.assertEqual(len(third.log), len([third.back() for _ in third.log]))
            self.same(shown(third), model.shown())

    def test_back_to_a_play_in_two_copies(self):
        desk = Desk(LINE, 3, 2, 2)
        desk.bid(0, 0, 1)
        desk.place(2, 0)
        other = desk.copy()
        for one, two in ((desk, other), (other, desk)):
            one.back()
            one.bid(1, 0, 0)
            self.assertEqual(one.log, ("bid 0 0 1", "bid 1 0 0"))
        self.assertEqual((desk.back(), desk.log, other.log), ("bid 1 0 0", ("bid 0 0 1",), ("bid 0 0 1", "bid 1 0 0")))
        self.assertEqual((desk.stand, other.stand, desk.played().steps, other.played().steps), (1, 0, 1, 2))

    def test_changed(self):
        other = with_due(LINE, 1, ("chips", 2))
        desk = Desk(LINE, 3, 2, 2, rule=TokenRule())
        desk.chips_in(1, 2)
        before = shown(desk)
        parts = {"web": other, "chips": 9, "stand": 1, "purse": 7, "rule": BankRule()}
        good = {"web": LINE, "chips": 4, "stand": 2, "purse": 2, "rule": TokenRule()}
        for names in plain.subsets(parts):
            changes = {name: parts[name] for name in names}
            if "chips" not in names and "purse" in names and "rule" in names:
                self.refused(WrongNumber, desk.changed, **changes)
                continue
            made, told = desk.changed(**changes), {**good, **changes}
            self.same(shown(made)[:6], (told["web"], told["chips"], told["stand"], told["purse"], told["rule"].word, ()))
        self.same(shown(desk), before)
        self.assertEqual(desk.changed(rule=None).rule.word, "hand")
        played = Desk(LINE, 3, 2, 2)
        played.bid(0, 0, 1)
        self.assertEqual((played.changed().played().moves, played.changed().stand, played.changed().log), ((), 1, ()))

    def test_purses_at_changes_of_rule(self):
        for purse in range(8):
            for word, after in (("hand", purse // 2), ("turns", purse // 2), ("bank", purse // 2), ("token", purse)):
                desk = Desk(LINE, 3, 1, purse, rule=TokenRule())
                desk.set_rule(rule_named(word))
                self.assertEqual((desk.purse, desk.rule.word, desk.log), (after, word, (f"set_rule {word}",)))
        for word in ("hand", "turns", "bank"):
            for other in plain_rules.WORDS:
                desk = Desk(LINE, 3, 1, 2, rule=rule_named(word))
                desk.set_rule(rule_named(other))
                self.assertEqual(desk.purse, 4 if other == "token" else 2)

    def test_log_texts(self):
        desk = Desk(LINE, 3, 2, 1)
        deeds = [desk.bid(0, 1, 1), desk.chips_in(3, 1), desk.set_due(2, ["chips", 5]), desk.set_due(3, None),
                 desk.set_due(1, ("less", GREAT)), desk.set_mark(1, 2), desk.place(0, 0), desk.claim(),
                 desk.set_rule(TokenRule()), desk.chips_out(3, 2)]
        self.assertEqual(deeds, [(1, 2)] + [None] * 9)
        self.assertEqual(desk.log, ("bid 0 1 1", "chips_in 3 1", "set_due 2 c5", "set_due 3 -", f"set_due 1 l{GREAT}",
                                    "set_mark 1 2", "place 0 0", "claim", "set_rule token", "chips_out 3 2"))
        self.assertEqual((desk.chips, desk.purse, desk.web.marks, desk.web.dues[2]), (3, 0, (1, 2, 1, 1), ("chips", 5)))
        for text in desk.log[::-1]:
            self.assertEqual(desk.back(), text)
        self.assertEqual((desk.web == LINE, desk.chips, desk.stand, desk.purse), (True, 3, 2, 1))

    def test_many_moves(self):
        begin = time.perf_counter()
        desk = Desk(Web.ring(2), 1, 0, 0)
        for number in range(5000):
            desk.bid(0, 0, 1 - number % 2)
        self.refused(TooMuch, desk.bid, 0, 0, 1)
        self.assertEqual((len(desk.log), desk.played().steps), (5000, 5000))
        desk.place(1, 1)
        desk.bid(1, 0, 0)
        self.assertEqual([desk.back(), desk.back(), desk.back()], ["bid 1 0 0", "place 1 1", "bid 0 0 0"])
        for _ in range(2000):
            desk.chips_in(1, 2)
        self.assertEqual(desk.chips, 2001)
        while desk.log:
            desk.back()
        self.assertEqual((desk.chips, desk.stand), (1, 0))
        self.assertLess(time.perf_counter() - begin, 60)


class Wrong(Refusals):
    def test_made(self):
        most = NO_INTEGERS + numbers(-1) + too_much(5001, 10 ** 50)
        purses = NO_INTEGERS + numbers(-1, 10 ** 60)
        self.each_fault(Desk, [LINE, 5000, 3, 0], [NO_WEBS, most, STANDS, purses])
        self.each_fault(self.made, [UNEVEN, 5000, 3, 0, None], [NO_WEBS, most, STANDS, purses, NO_RULES + UNFIT])
        self.each_fault(self.made, [LINE, 5000, 3, 10001, TokenRule()],
                        [NO_WEBS + [(UNEVEN, "b")], NO_INTEGERS + numbers(-1, 4999) + too_much(5001, 10 ** 50), STANDS,
                         NO_INTEGERS + numbers(-1, 10 ** 60), NO_RULES])
        self.refused(WrongNumber, Desk, LINE, 3, 1, 4)
        self.refused(WrongNumber, Desk, LINE, 3, 1, 8, rule=TokenRule())
        self.refused(WrongNumber, Desk, LINE, 3, 1, 4, rule=BankRule())
        self.assertEqual(Desk(LINE, 3, 1, 7, rule=TokenRule()).purse, 7)
        self.assertEqual(Desk(LINE, 3, 1, 1, rule=None).rule, HandRule())

    def made(self, web, k, stand, purse, rule):
        return Desk(web, k, stand, purse, rule=rule)

    def unchanged(self, make, name, good, faults):
        """Each wrong argument of a deed, the desk being as it was behind it."""
        def call(*args):
            desk = make()
            before = shown(desk)
            try:
                return getattr(desk, name)(*args)
            except PurseError:
                if shown(desk)[0] == before[0] and shown(desk)[1:] == before[1:]:
                    raise
                self.fail("a deed that raised an error has changed something")
        self.each_fault(call, good, faults)

    def over(self):
        desk = Desk(LINE, 3, 3, 3)
        self.assertTrue(desk.over)
        return desk

    def lone(self, rule):
        return lambda: Desk(LINE, 3, 2, 2, rule=rule)

    def test_bids_and_claims(self):
        bids = NO_INTEGERS + numbers(-1, 4, 10 ** 50)
        steps = NO_INTEGERS + [(bad, "e") for bad in (0, 2, -1, 10 ** 50)]
        self.unchanged(self.lone(None), "bid", [2, 1, 1], [bids, bids, steps])
        self.unchanged(lambda: Desk(LINE, 3, 1, 2), "bid", [2, 1, 0], [bids, bids, NO_INTEGERS + [(1, "e"), (5, "e")]])
        self.refused(WrongDeed, self.over().bid, 0, 0, 2)
        self.refused(WrongNumber, self.over().bid, 4, 0, 2)
        for desk in (Desk(LINE, 3, 2, 2), self.over()):
            self.refused(WrongDeed, desk.claim)
        desk = Desk(LINE, 3, 0, 0)
        desk.claim()
        self.refused(WrongDeed, desk.claim)
        self.assertEqual((desk.over, desk.winner, desk.log, desk.back(), desk.over), (True, 1, ("claim",), "claim", False))
        for rule in (TurnsRule(), TokenRule(), BankRule()):
            desk = self.lone(rule)()
            # Behind WrongKind, and before all else.
            for args in ((1, 0, 1), (-1, 99, 99)):
                self.refused(WrongDeed, desk.bid, *args)
            self.refused(WrongKind, desk.bid, -1, True, 99)
            self.refused(WrongDeed, desk.claim)
            self.assertEqual((desk.over, desk.winner, desk.log), (False, 0, ()))

    def test_other_deeds(self):
        for make in (self.lone(None), self.lone(TurnsRule()), self.lone(TokenRule()), self.lone(BankRule()), self.over):
            counts = NO_INTEGERS + numbers(0, -1, -(10 ** 50))
            self.unchanged(make, "chips_in", [4997, 1], [counts + too_much(4998, 10 ** 50), HANDS])
            self.unchanged(make, "chips_in", [4997, 2], [counts + too_much(4998, 10 ** 50), HANDS])
            self.unchanged(make, "chips_out", [1, 1], [counts + [(4, "e"), (10 ** 50, "e")], HANDS])
            self.unchanged(make, "set_due", [3, ("less", GREAT)], [STANDS, NO_DUES + WRONG_DUES])
            self.unchanged(make, "set_mark", [3, 2], [STANDS, HANDS])
            self.unchanged(make, "set_rule", [BankRule()], [NO_RULES + [(None, "a")]])
            self.unchanged(make, "place", [3, 0], [STANDS, NO_INTEGERS + numbers(-1, 8, 10 ** 50)])
            self.unchanged(make, "back", [], []) if make().log else self.refused(WrongDeed, make().back)
        self.unchanged(lambda: Desk(UNEVEN, 3, 1, 2), "set_rule", [BankRule()], [NO_RULES + UNFIT + [(None, "a")]])

    def test_chips_that_a_hand_has(self):
        for rule, purse, first in ((None, 2, 2), (TurnsRule(), 1, 1), (BankRule(), 3, 3), (TokenRule(), 4, 2), (TokenRule(), 5, 2)):
            for hand, most in ((1, first), (2, 3 - first)):
                for count in range(1, 5):
                    desk = Desk(LINE, 3, 1, purse, rule=rule)
                    if count > most:
                        self.refused(WrongDeed, desk.chips_out, count, hand)
                        self.assertEqual((desk.chips, desk.purse, desk.log), (3, purse, ()))
                    else:
                        desk.chips_out(count, hand)
                        unit = 2 if rule == TokenRule() else 1
                        told = (3 - count, purse - (unit * count if hand == 1 else 0))
                        self.assertEqual((desk.chips, desk.purse), told)

    def test_changes(self):
        desk = Desk(LINE, 3, 2, 2)
        for changes, error in (({"k": 3}, WrongKind), ({"log": ()}, WrongKind), ({"over": False, "chips": -1}, WrongKind),
                               ({"web": None}, WrongKind), ({"chips": True}, WrongKind), ({"rule": "hand"}, WrongKind),
                               ({"rule": Rule()}, WrongKind), ({"chips": 1}, WrongNumber), ({"stand": 4}, WrongNumber),
                               ({"purse": -1}, WrongNumber), ({"chips": 5001}, TooMuch),
                               ({"web": UNEVEN, "rule": TokenRule(), "purse": 9}, WrongWeb)):
            self.refused(error, desk.changed, **changes)

    def test_questions_above_a_bound(self):
        for rule, k in ((TokenRule(), 201), (BankRule(), 61)):
            desk = Desk(LINE, k, 0, 0, rule=rule)
            for name in ("numbers", "number", "whose", "advice"):
                self.refused(TooMuch, getattr(desk, name))
            self.assertEqual((desk.chips, desk.over), (k, False))
        lamp = Desk(Web.line(30), 3, 1, 1, rule=TurnsRule())
        self.refused(TooMuch, lamp.numbers)
        great = Desk(Web.line(59), 5000, 1, 1)
        self.refused(TooMuch, great.table)
        self.assertEqual(great.steps_left(), None)
        self.assertEqual(Desk(chain(2), 5000, 2, 5000).whose(), 1)

    def test_what_is_returned_is_a_copy(self):
        desk = Desk(LINE, 3, 2, 2)
        play = desk.played()
        play.move(0, 0, 1)
        self.assertEqual((desk.stand, desk.log, desk.played().steps), (2, (), 0))


if __name__ == "__main__":
    unittest.main()
