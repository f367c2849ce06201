"""Builds lists of calls from readable steps, and takes the answers apart again."""

from greentrace.stores import answers

NUMBERS = {"store": 0, "print": 1, "more": 2, "settle": 3, "undo": 4, "worlds": 5,
           "place": 6, "kilos": 7, "sold": 8, "trace": 9, "share": 10}


def bytes_of(text):
    """A text may be given as a str or as a list of bytes."""
    return [ord(sign) for sign in text] if isinstance(text, str) else list(text)


def call(name, *given):
    numbers = [NUMBERS[name]]
    for value in given:
        if isinstance(value, int):
            numbers.append(value)
        else:
            row = bytes_of(value)
            numbers += [len(row)] + row
    return numbers


def calls_of(steps):
    calls = []
    for step in steps:
        calls += call(*step)
    return calls


def taken_apart(given):
    rows = []
    at = 0
    while at < len(given):
        rows.append(given[at + 1:at + 1 + given[at]])
        at += 1 + given[at]
    return rows


def run(*steps):
    """The answer to each step."""
    return taken_apart(answers(calls_of(steps)))


def last(*steps):
    return run(*steps)[-1]


def text_of(*lines):
    return "".join(line + "\n" for line in lines)


def printed(answer):
    assert answer[0] == 0
    return "".join(chr(byte) for byte in answer[1:])
