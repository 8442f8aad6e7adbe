"""Puts calls into one list of whole numbers and takes the answers apart."""

from drawntogether.nets import answers
from tests.slow import Slow, dual

NUMBERS = {"set": 0, "form": 1, "size": 2, "test": 3, "bad": 4, "draw": 5, "switch": 6,
           "partner": 7, "swap": 8, "open": 9, "shut": 10, "bare": 11, "turn": 12}
WITH_ROW = ("set", "switch")
FAR = 10 ** 18


def as_bytes(text):
    return list(text.encode("latin-1")) if isinstance(text, str) else list(text)


def packed(calls):
    """A call is its name, or its name, then its row or its numbers."""
    line = []
    for call in calls:
        if isinstance(call, str):
            line.append(NUMBERS[call])
        elif call[0] in WITH_ROW:
            row = as_bytes(call[1])
            line.extend([NUMBERS[call[0]], len(row)] + row)
        else:
            line.extend([NUMBERS[call[0]]] + list(call[1:]))
    return line


def unpacked(told):
    found = []
    place = 0
    while place < len(told):
        end = place + 1 + told[place]
        found.append(told[place + 1:end])
        place = end
    if place != len(told):
        raise AssertionError("the last answer is shorter than its count tells")
    return found


def ask(*calls):
    """The answers of a line, one list for each call."""
    found = unpacked(answers(packed(calls)))
    if len(found) != len(calls):
        raise AssertionError("not one answer for each call")
    return found


def ask_of(text, *calls):
    """The answers of calls on the structure of a text that is taken."""
    found = ask(("set", text), *calls)
    if found[0][0] < 0:
        raise AssertionError("set refuses %r with %r" % (text, found[0]))
    return found[1:]


def set_answer(text):
    return ask(("set", text))[0]


def form_of(text):
    return form_behind(text)[-1]


def form_behind(text, *calls):
    """The answers of calls on a text's structure, and then the form as a text."""
    told = ask_of(text, *calls, "form")
    return told[:-1] + [form_text(told[-1])]


def form_text(answer):
    if answer[0] != len(answer) - 1:
        raise AssertionError("form tells another count than it has bytes")
    return bytes(answer[1:]).decode("ascii")


def everything(leaves):
    """Calls that tell all of a structure of so many leaves, and change nothing."""
    # A line has at most 240 calls, and these stand in one twice.
    return ["form", "size", "test", "bad", "draw"] + [("partner", leaf) for leaf in range(min(leaves, 100))]


def refused(text, call, more=()):
    """The refusal of a call behind some more; it must leave everything as it was."""
    look = everything(ask_of(text, *more, "size")[-1][2])
    told = ask_of(text, *more, *look, call, *look)[len(more):]
    if told[:len(look)] != told[len(look) + 1:]:
        raise AssertionError("%r changes something of %r" % (call, text))
    answer = told[len(look)]
    if len(answer) != 1 or answer[0] >= 0:
        raise AssertionError("%r is answered %r, which is no refusal" % (call, answer))
    return answer[0]


def formula_form(text):
    """How a formula is written again; its dual beside it makes links possible."""
    count = leaf_count(text)
    links = " ".join("%d-%d" % (leaf, leaf + count) for leaf in range(count))
    form = form_of("%s, ~(%s) ; ; %s" % (text, text, links))
    return form.split(", ")[0]


def leaf_count(text):
    """How many atoms a formula's text has, for names of small letters alone."""
    return len("".join(sign if sign.isalnum() else " " for sign in text.replace("-o", " ")).split())


def linked(conclusions, cuts=""):
    """A structure's text, each leaf linked with the first one that fits."""
    leaves = Slow(as_bytes("%s ; %s ;" % (conclusions, cuts))).leaves
    waiting = list(range(len(leaves)))
    pairs = []
    while waiting:
        leaf = waiting.pop(0)
        other = [fitting for fitting in waiting if leaves[fitting] == dual(leaves[leaf])][0]
        waiting.remove(other)
        pairs.append("%d-%d" % (leaf, other))
    return "%s ; %s ; %s" % (conclusions, cuts, " ".join(pairs))


def chain(sign, count):
    """For alternating: a formula of so many atoms that is so deep."""
    return sign.join("?" * count)


def flat(count):
    """For alternating: a formula of so many atoms, of depth far below 40."""
    if count < 3:
        return chain("*", count)
    return "(%s)*(%s)" % (chain("*", count // 2), chain("*", count - count // 2))


def alternating(*shapes):
    """Conclusions with a and ~a by turns for each ?, and an atom more if there must be."""
    sequent = ", ".join(shapes)
    if sequent.count("?") % 2:
        sequent += ", ?"
    count = sequent.count("?")
    while "?" in sequent:
        sequent = sequent.replace("?", "a", 1).replace("?", "~a", 1)
    return "%s ;  ; %s" % (sequent, neighbours(count))


def neighbours(count):
    """The links 0-1 2-3 and so on of so many leaves."""
    return " ".join("%d-%d" % (leaf, leaf + 1) for leaf in range(0, count, 2))


def halves(count):
    """The links of each leaf of the first half with that of the second."""
    half = count // 2
    return " ".join("%d-%d" % (leaf, leaf + half) for leaf in range(half))
