"""The four lists of a web: whether they fit, and their text."""

from pursewebs.dues import check_due, due_from_word, due_in_range, due_too_great, due_word
from pursewebs.errors import TooMuch, WrongKind, WrongText, WrongWeb
from pursewebs.reading import whole_from_word
from pursewebs.whole import check_least, check_most, check_one_or_two, check_whole, whole_list

MOST_STANDS = 60


def check_parts(first, second, marks, dues):
    """Raise what is wrong with the four lists of a web."""
    check_kinds(first, second, marks, dues)
    size = len(marks)
    if size == 0 or [len(first), len(second), len(dues)] != [size] * 3:
        raise WrongWeb("the four lists of a web are of one length, at least 1")
    check_steps(first, second)
    for mark in marks:
        if mark not in (1, 2):
            raise WrongWeb("a mark is 1 or 2")
    for due in dues:
        if not due_in_range(due):
            raise WrongWeb("a due has a wrong word or a number below 0")
    check_most(size, MOST_STANDS)
    for due in dues:
        if due_too_great(due):
            raise TooMuch("the number of a due is above its bound")


def check_kinds(first, second, marks, dues):
    """Raise WrongKind if one of the four lists, or a part of one, is of the wrong kind."""
    for steps in (first, second, dues):
        if not isinstance(steps, (list, tuple)):
            raise WrongKind("a web is made of four lists")
    for steps in (*first, *second, marks):
        whole_list(steps)
    for due in dues:
        check_due(due)


def check_steps(first, second):
    """Raise WrongWeb if a step is no stand or a stand has steps of one hand alone."""
    for stand, steps in enumerate(first):
        for step in (*steps, *second[stand]):
            if step < 0 or step >= len(first):
                raise WrongWeb("a step is no stand")
        if bool(steps) != bool(second[stand]):
            raise WrongWeb("a stand has steps of one hand alone")


def check_plain(number, mark, extra):
    """Raise what is wrong with a number and a mark for a plain web of number + extra stands."""
    check_whole(number, mark)
    check_least(number, 1)
    check_one_or_two(mark)
    check_most(number + extra, MOST_STANDS)


def parts_written(first, second, marks, dues):
    """The text of the web of these four parts."""
    lines = [f"web {len(marks)}\n"]
    for stand, steps in enumerate(first):
        ways = f"; {spaced(steps)} ; {spaced(second[stand])}" if steps else "end"
        lines.append(f"{stand} {marks[stand]} {due_word(dues[stand])} {ways}\n")
    return "".join(lines)


def spaced(numbers):
    """The numbers in digits, parted by one space."""
    return " ".join([str(number) for number in numbers])


def parts_from_text(text):
    """The first steps, second steps, marks and dues that the lines of text tell."""
    lines = text.split("\n")
    head = lines[0].split(" ")
    if len(head) != 2 or head[0] != "web":
        raise WrongText("the text of a web begins with the word web and a number")
    if whole_from_word(head[1]) != len(lines) - 2 or len(lines) - 2 > MOST_STANDS:
        raise WrongText("the text of a web has one line for each stand, at most 60")
    told = [stand_from_line(line) for line in lines[1:-1]]
    return [[part[place] for part in told] for place in (0, 1, 2, 3)]


def stand_from_line(line):
    """The first steps, second steps, mark and due of the stand that the line tells."""
    words = line.split(" ")
    if len(words) < 4:
        raise WrongText("the line of a stand is too short")
    # The number of the stand has its place; the whole text is compared later.
    whole_from_word(words[0])
    mark = whole_from_word(words[1])
    due = due_from_word(words[2])
    if words[3:] == ["end"]:
        return ((), (), mark, due)
    if words[3] != ";" or words[4:].count(";") != 1:
        raise WrongText("the line of a stand has no end and no two sets of steps")
    cut = words[4:].index(";") + 4
    return (steps_from_words(words[4:cut]), steps_from_words(words[cut + 1:]), mark, due)


def steps_from_words(words):
    """The steps that are written as these words."""
    return tuple([whole_from_word(word) for word in words])
