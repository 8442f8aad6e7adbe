"""Puts calls into one list of whole numbers and takes the answers apart."""

from drawntogether.nets import answers

NUMBERS = {"set": 0, "form": 1, "size": 2, "test": 3, "bad": 4, "draw": 5, "switch": 6}


def as_bytes(text):
    return list(text.encode("latin-1")) if isinstance(text, str) else list(text)


def packed(calls):
    line = []
    for call in calls:
        if isinstance(call, str):
            line.append(NUMBERS[call])
        else:
            row = as_bytes(call[1])
            line.extend([NUMBERS[call[0]], len(row)] + row)
    return line


def unpacked(told):
    found = []
    place = 0
    while place < len(told):
        end = place + 1 + told[place]
        found.append(told[place + 1:end])
        place = end
    if place != len(told):
        raise AssertionError("the last answer is shorter than its count tells")
    return found


def ask(*calls):
    """The answers of a line, one list for each call."""
    found = unpacked(answers(packed(calls)))
    if len(found) != len(calls):
        raise AssertionError("not one answer for each call")
    return found


def ask_of(text, *calls):
    """The answers of calls on the structure of a text that is taken."""
    found = ask(("set", text), *calls)
    if found[0][0] < 0:
        raise AssertionError("set refuses %r with %r" % (text, found[0]))
    return found[1:]


def set_answer(text):
    return ask(("set", text))[0]


def form_of(text):
    answer = ask_of(text, "form")[0]
    if answer[0] != len(answer) - 1:
        raise AssertionError("form tells another count than it has bytes")
    return bytes(answer[1:]).decode("ascii")


def formula_form(text):
    """How a formula is written again; its dual beside it makes links possible."""
    count = leaf_count(text)
    links = " ".join("%d-%d" % (leaf, leaf + count) for leaf in range(count))
    form = form_of("%s, ~(%s) ; ; %s" % (text, text, links))
    return form.split(", ")[0]


def leaf_count(text):
    """How many atoms a formula's text has, for names of small letters alone."""
    return len("".join(sign if sign.isalnum() else " " for sign in text.replace("-o", " ")).split())


def neighbours(count):
    """The links 0-1 2-3 and so on of so many leaves."""
    return " ".join("%d-%d" % (leaf, leaf + 1) for leaf in range(0, count, 2))


def halves(count):
    """The links of each leaf of the first half with that of the second."""
    half = count // 2
    return " ".join("%d-%d" % (leaf, leaf + half) for leaf in range(half))
