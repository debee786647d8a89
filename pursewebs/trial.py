"""Trials: what is done with a desk is undone again."""

from pursewebs.checks import check_list
from pursewebs.desk import check_desk, copied
from pursewebs.errors import WrongKind

ARGUMENTS = {"bid": 3, "claim": 0, "chips_in": 2, "chips_out": 2, "set_due": 2, "set_mark": 2, "set_rule": 1,
             "place": 2, "back": 0}
QUESTIONS = ("numbers", "number", "whose", "advice", "slips", "paper", "table", "steps_left")


class Held:
    """What a desk had when a block began, and what is held for the blocks around it."""

    def __init__(self, desk, around):
        self.shown = copied(desk._scene)
        self.noted = list(desk._deeds)
        self.around = around


class Trial:
    """For a with statement: behind the block the desk is as it was."""

    def __init__(self, desk):
        check_desk(desk)
        self._desk = desk
        self._held = None

    def __enter__(self):
        self._held = Held(self._desk, self._held)
        return self._desk

    def __exit__(self, kind, value, trace):
        desk = self._desk
        desk._scene = self._held.shown
        desk._deeds = self._held.noted
        self._held = self._held.around


def check_deed(deed):
    """Raise WrongKind if deed is no list of the name of a deed and its arguments."""
    check_list(deed)
    if not deed or not isinstance(deed[0], str) or deed[0] not in ARGUMENTS:
        raise WrongKind("there is no deed of this name")
    if len(deed) != ARGUMENTS[deed[0]] + 1:
        raise WrongKind("a deed has another number of arguments")


def do_deed(desk, name, given):
    """Do the deed of this name with the given arguments."""
    if name == "bid":
        desk.bid(*given)
    elif name == "claim":
        desk.claim()
    elif name == "chips_in":
        desk.chips_in(*given)
    elif name == "chips_out":
        desk.chips_out(*given)
    elif name == "set_due":
        desk.set_due(*given)
    elif name == "set_mark":
        desk.set_mark(*given)
    elif name == "set_rule":
        desk.set_rule(*given)
    elif name == "place":
        desk.place(*given)
    else:
        desk.back()


def answer(desk, question):
    """The answer of the desk to the question."""
    if question == "numbers":
        return desk.numbers()
    if question == "number":
        return desk.number()
    if question == "whose":
        return desk.whose()
    if question == "advice":
        return desk.advice()
    if question == "slips":
        return desk.slips()
    if question == "paper":
        return desk.paper()
    return desk.table() if question == "table" else desk.steps_left()


def what_if(desk, deeds, question):
    """The answer to the question behind these deeds, which are not done for good."""
    check_list(deeds)
    for deed in deeds:
        check_deed(deed)
    if not isinstance(question, str) or question not in QUESTIONS:
        raise WrongKind("there is no question of this name")
    with Trial(desk) as tried:
        for deed in deeds:
            do_deed(tried, deed[0], list(deed[1:]))
        return answer(tried, question)
