"""Builds lists of calls from readable steps, and takes the answers apart again."""

from greentrace.stores import answers

NUMBERS = {"store": 0, "print": 1, "more": 2, "settle": 3, "undo": 4, "worlds": 5, "place": 6, "kilos": 7, "sold": 8,
           "trace": 9, "share": 10, "surely": 11, "recall": 12, "ask": 13, "mass": 14, "way": 15, "inside": 16,
           "find": 17, "unsettled": 18, "enough": 19, "sold_kilos": 20, "where": 21}
# How long the row of a call may be.
LONGEST = {"store": 2500, "more": 200, "find": 20, "enough": 12}
# A list may hold only so many calls, and of these calls fewer.
MOST_CALLS = 100
RARE = ("store", "recall", "ask", "where")
MOST_RARE = 12


def bytes_of(text):
    """A text may be given as a str or as a list of bytes."""
    return [ord(sign) for sign in text] if isinstance(text, str) else list(text)


def call(name, *given):
    numbers = [NUMBERS[name]]
    for value in given:
        if isinstance(value, int):
            assert -1000000 <= value <= 1000000
            numbers.append(value)
        else:
            row = bytes_of(value)
            assert len(row) <= LONGEST[name], name
            numbers += [len(row)] + row
    return numbers


def rare_of(steps):
    return sum(step[0] in RARE for step in steps)


def calls_of(steps):
    """Only such lists are handed in as the document allows."""
    assert 1 <= len(steps) <= MOST_CALLS and rare_of(steps) <= MOST_RARE
    calls = []
    for step in steps:
        calls += call(*step)
    assert len(calls) <= 40000
    return calls


def taken_apart(given):
    rows = []
    at = 0
    while at < len(given):
        rows.append(given[at + 1:at + 1 + given[at]])
        at += 1 + given[at]
    assert at == len(given)
    return rows


def run(*steps):
    """The answer to each step."""
    return taken_apart(answers(calls_of(steps)))


def last(*steps):
    return run(*steps)[-1]


def asked(before, questions):
    """The answer to each question; as many lists as are needed, each with the steps before it anew."""
    found = []
    part = []
    for question in list(questions) + [None]:
        full = len(before) + len(part) == MOST_CALLS or rare_of([*before, *part]) == MOST_RARE
        if part and (full or question is None):
            found += run(*before, *part)[len(before):]
            part = []
        part.append(question)
    return found


def text_of(*lines):
    return "".join(line + "\n" for line in lines)


def printed(answer):
    assert answer[0] == 0
    return "".join(chr(byte) for byte in answer[1:])
