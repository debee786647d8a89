"""Desks: a state under a rule, the deeds done, and questions about it."""

from pursewebs.builders import replaced, with_due
from pursewebs.checks import check_stand
from pursewebs.dues import due_word
from pursewebs.errors import WrongDeed, WrongKind
from pursewebs.paper import Paper
from pursewebs.plans import FirstPlan
from pursewebs.play import Play
from pursewebs.rules import HandRule, check_fits, check_rule, check_rule_state
from pursewebs.slips import slips
from pursewebs.table import Table
from pursewebs.web import Web
from pursewebs.whole import check_least, check_most, check_one_or_two, check_range, check_whole

MOST_CHIPS = 5000


class Scene:
    """What a desk shows: a web, a rule, k and a state, which is that of a play under the rule "hand".

    A scene is never changed but by the moves of its play.
    """

    def __init__(self, web, rule, k, spot, game):
        self.ground = web
        self.manner = rule
        self.total = k
        self.spot = spot
        self.game = game


def scene_at(web, rule, k, stand, purse):
    """The scene that begins at this state."""
    game = Play(web, k, stand, purse) if rule == HandRule() else None
    return Scene(web, rule, k, (stand, purse), game)


def copied(scene):
    """An equal scene with a play of its own."""
    game = None if scene.game is None else scene.game.copy()
    return Scene(scene.ground, scene.manner, scene.total, scene.spot, game)


def state_of(scene):
    """The present stand and purse of the scene."""
    if scene.game is None:
        return scene.spot
    return (scene.game.stand, scene.game.purse)


def game_of(scene):
    """The play of the scene; WrongDeed under another rule than "hand"."""
    if scene.game is None:
        raise WrongDeed("this is for the rule of hands alone")
    return scene.game


def unit_of(rule):
    """How much a purse grows by a chip under the rule."""
    return 2 if rule.word == "token" else 1


def purse_under(rule, before, purse):
    """The purse under the rule that it is under the rule before."""
    return purse * unit_of(rule) // unit_of(before)


class Desk:
    """A desk: what it shows, and a log of the deeds done."""

    def __init__(self, web, k, stand, purse, *, rule=None):
        manner = HandRule() if rule is None else rule
        check_rule(manner)
        check_rule_state(manner, web, k, stand, purse)
        check_most(k, MOST_CHIPS)
        self._scene = scene_at(web, manner, k, stand, purse)
        # Each deed by its text, with the scene before it; moves and claims are taken back in the play.
        self._deeds = []

    @property
    def web(self):
        return self._scene.ground

    @property
    def chips(self):
        return self._scene.total

    @property
    def stand(self):
        return state_of(self._scene)[0]

    @property
    def purse(self):
        return state_of(self._scene)[1]

    @property
    def rule(self):
        return self._scene.manner

    @property
    def log(self):
        return tuple([text for text, _ in self._deeds])

    @property
    def over(self):
        return self._scene.game is not None and self._scene.game.over

    @property
    def winner(self):
        return 0 if self._scene.game is None else self._scene.game.winner

    def bid(self, p, q, step):
        """Make a move of the play, and return the state behind it."""
        check_whole(p, q, step)
        state = game_of(self._scene).move(p, q, step)
        self._deeds.append((f"bid {p} {q} {step}", None))
        return state

    def claim(self):
        """Claim for the first hand in the play."""
        game_of(self._scene).claim()
        self._deeds.append(("claim", None))

    def chips_in(self, count, hand):
        """Give the hand so many chips more."""
        check_whole(count, hand)
        check_least(count, 1)
        check_one_or_two(hand)
        check_most(self.chips + count, MOST_CHIPS)
        self._change_chips(f"chips_in {count} {hand}", count, hand)

    def chips_out(self, count, hand):
        """Take so many chips from the hand."""
        check_whole(count, hand)
        check_least(count, 1)
        check_one_or_two(hand)
        first = self.purse // unit_of(self.rule)
        if count > (first if hand == 1 else self.chips - first):
            raise WrongDeed("the hand does not have so many chips")
        self._change_chips(f"chips_out {count} {hand}", -count, hand)

    def set_due(self, stand, due):
        """Change the due of a stand."""
        web = with_due(self.web, stand, due)
        self._go_on(f"set_due {stand} {due_word(due)}", scene_at(web, self.rule, self.chips, self.stand, self.purse))

    def set_mark(self, stand, mark):
        """Change the mark of a stand."""
        check_whole(stand, mark)
        check_stand(self.web, stand)
        check_one_or_two(mark)
        web = Web(self.web.first, self.web.second, replaced(self.web.marks, stand, mark), self.web.dues)
        self._go_on(f"set_mark {stand} {mark}", scene_at(web, self.rule, self.chips, self.stand, self.purse))

    def set_rule(self, rule):
        """Go on by another rule."""
        check_rule(rule)
        check_fits(rule, self.web)
        purse = purse_under(rule, self.rule, self.purse)
        self._go_on(f"set_rule {rule.word}", scene_at(self.web, rule, self.chips, self.stand, purse))

    def place(self, stand, purse):
        """Go on at another state."""
        check_whole(stand, purse)
        check_stand(self.web, stand)
        check_range(purse, 0, self.rule.greatest_purse(self.chips))
        self._go_on(f"place {stand} {purse}", scene_at(self.web, self.rule, self.chips, stand, purse))

    def _change_chips(self, text, more, hand):
        """Go on with so many chips more of the hand."""
        purse = self.purse + (more * unit_of(self.rule) if hand == 1 else 0)
        self._go_on(text, scene_at(self.web, self.rule, self.chips + more, self.stand, purse))

    def _go_on(self, text, scene):
        """Do the deed with this text, which leads to another scene."""
        self._deeds.append((text, self._scene))
        self._scene = scene

    def back(self):
        """Take the last deed back, and return its text."""
        if not self._deeds:
            raise WrongDeed("there is no deed to take back")
        text, before = self._deeds.pop()
        if before is None:
            self._scene.game.back()
        else:
            # A copy of this desk may come back to the same scene.
            self._scene = copied(before)
        return text

    def numbers(self):
        """The numbers of all stands under the rule."""
        return self.rule.numbers(self.web, self.chips)

    def whose(self):
        """The hand whose the present state is."""
        return self.rule.told(self.web, self.chips, self.stand, self.purse)

    def advice(self):
        """The advice at the present state."""
        return self.rule.advice(self.web, self.chips, self.stand, self.purse)

    def number(self):
        """The number of the present stand."""
        return self.numbers()[self.stand]

    def slips(self):
        """The slips of the play."""
        return slips(game_of(self._scene))

    def played(self):
        """A copy of the play."""
        return game_of(self._scene).copy()

    def paper(self):
        """The paper of the number row."""
        game_of(self._scene)
        return Paper.exact(self.web, self.chips)

    def table(self):
        """The least table of the web."""
        game_of(self._scene)
        return Table.least(self.web)

    def steps_left(self):
        """How many moves at most the first hand's plan needs, None if the state is the second hand's."""
        paper = self.paper()
        return FirstPlan(self.web, self.chips, paper.row, paper.ranks).steps_left(self.stand, self.purse)

    def changed(self, **changes):
        """A new desk with some of the web, the chips, the stand, the purse and the rule replaced."""
        told = {"web": self.web, "chips": self.chips, "stand": self.stand, "purse": self.purse, "rule": self.rule}
        for name in changes:
            if name not in told:
                raise WrongKind("a desk has no part of this name")
            told[name] = changes[name]
        return Desk(told["web"], told["chips"], told["stand"], told["purse"], rule=told["rule"])

    def copy(self):
        """A desk with the same play and log that lives on its own."""
        other = self.changed()
        other._scene = copied(self._scene)
        other._deeds = list(self._deeds)
        return other


def check_desk(thing):
    """Raise WrongKind if thing is no desk."""
    if not isinstance(thing, Desk):
        raise WrongKind("a desk is asked for")


def desk_of_play(play):
    """A desk under the rule "hand" whose play is this one."""
    desk = Desk(play.web, play.chips, play.stand, play.purse)
    desk._scene = Scene(play.web, HandRule(), play.chips, None, play)
    return desk
