"""Plays: a state, and the deeds done since."""

from pursewebs.checks import check_state
from pursewebs.errors import WrongDeed, WrongKind, WrongWeb
from pursewebs.plans import FirstPlan, SecondPlan
from pursewebs.serving import bought
from pursewebs.state import reaches_due, settled_as, state_behind
from pursewebs.whole import GREATEST, check_least, check_most, check_range, check_whole

MOST_MOVES = 5000


class Play:
    """A play that begins at a state."""

    def __init__(self, web, k, stand, purse):
        check_state(web, k, stand, purse)
        check_most(k, GREATEST)
        self._web = web
        self._chips = k
        self._begin = (stand, purse)
        self._states = [(stand, purse)]
        self._moves = []
        self._claimed = False

    @property
    def web(self):
        return self._web

    @property
    def chips(self):
        return self._chips

    @property
    def stand(self):
        return self._states[-1][0]

    @property
    def purse(self):
        return self._states[-1][1]

    @property
    def steps(self):
        return len(self._moves)

    @property
    def moves(self):
        return tuple(self._moves)

    @property
    def claimed(self):
        return self._claimed

    @property
    def over(self):
        return self.winner != 0

    @property
    def winner(self):
        if self._claimed:
            return 1
        stand, purse = self._states[-1]
        return 2 if settled_as(self._web, self._chips, stand, purse) == 2 else 0

    def __iter__(self):
        return iter(self._states)

    def __eq__(self, other):
        return (isinstance(other, Play) and self._web == other._web and self._chips == other._chips
                and self._begin == other._begin and self._moves == other._moves and self._claimed == other._claimed)

    def move(self, p, q, step):
        """Make a move, and return the state behind it."""
        check_whole(p, q, step)
        stand, purse = self._states[-1]
        check_range(p, 0, purse)
        check_range(q, 0, self._chips - purse)
        if self.over:
            raise WrongDeed("the play is over")
        state = state_behind(self._web, stand, purse, p, q, step)
        check_most(len(self._moves) + 1, MOST_MOVES)
        self._moves.append((p, q, step))
        self._states.append(state)
        return state

    def claim(self):
        """Claim for the first hand."""
        stand, purse = self._states[-1]
        if self.over or not reaches_due(self._web, self._chips, stand, purse):
            raise WrongDeed("the first hand cannot claim")
        self._claimed = True

    def back(self):
        """Take the last deed back, and return it."""
        if self._claimed:
            self._claimed = False
            return "claim"
        if not self._moves:
            raise WrongDeed("there is no deed to take back")
        self._states.pop()
        return self._moves.pop()

    def copy(self):
        """An equal play that lives on its own."""
        other = Play(self._web, self._chips, self._begin[0], self._begin[1])
        other._states = list(self._states)
        other._moves = list(self._moves)
        other._claimed = self._claimed
        return other


def claim_by_plan(play, first):
    """Claim if the plan does, or at an end, where the claim is the only deed."""
    if play.over:
        return
    if first.claims(play.stand, play.purse) or not play.web.first[play.stand]:
        play.claim()


def move_by_deeds(play, first_deed, second_deed):
    """Make the move for a bid and a step of each hand."""
    p, first_step = first_deed
    q, second_step = second_deed
    hand, _ = bought(play.web.marks[play.stand], play.purse, p, q)
    play.move(p, q, first_step if hand == 1 else second_step)


def check_play(thing):
    """Raise WrongKind if thing is no play."""
    if not isinstance(thing, Play):
        raise WrongKind("a play is asked for")


def play_on(play, first, second, most):
    """A copy of the play that both plans went on with."""
    check_play(play)
    if not isinstance(first, FirstPlan) or not isinstance(second, SecondPlan):
        raise WrongKind("a plan of each hand is asked for")
    check_whole(most)
    for plan in (first, second):
        if plan.web != play.web or plan.chips != play.chips:
            raise WrongWeb("a plan has another web or another k than the play")
    check_least(most, 0)
    check_most(most, MOST_MOVES)
    gone = play.copy()
    claim_by_plan(gone, first)
    while not gone.over and gone.steps - play.steps < most:
        move_by_deeds(gone, first(gone.stand, gone.purse), second(gone.stand, gone.purse))
        claim_by_plan(gone, first)
    return gone
