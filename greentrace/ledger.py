"""The ledger: all that a store's lines tell, and the ways that they leave."""

from greentrace.layout import Layout
from greentrace.lines import GOOD, WRONG_FORM, deed_of, is_name, signs_of, told_deeds, why_wrong
from greentrace.ways import MOST_WAYS, first_way, next_ways, settled

MOST_LOTS = 6
MOST_PLACES = 8
MOST_DEEDS = 4
MOST_ENTRIES = 40

# Why a line is wrong, besides its form and what isn't there.
TWICE = 2
TOO_MANY = 4
TOO_LATE = 5
NO_WAY = 6
TOO_MANY_WAYS = 7


class Ledger:
    """Lots, places and entries; layers[n] holds the ways of the first n entries.

    Layers are kept so that the last entry can be undone without doing all others again.
    """

    def __init__(self):
        self.layout = Layout()
        self.entries = []
        self.layers = [[first_way(self.layout)]]

    def ways(self):
        return self.layers[-1]

    def add_line(self, line):
        """Adds what the line tells and answers GOOD; or adds nothing and answers why it's wrong."""
        words = line.split(" ")
        if words[0] == "lot" or words[0] == "bag" or words[0] == "silo":
            return self.add_name(words)
        return self.add_entry(told_deeds(words))

    def add_name(self, words):
        why = self.why_no_name(words)
        if why == GOOD:
            if words[0] == "lot":
                self.layout.add_lot(words[1])
            else:
                self.layout.add_place(words[1], words[0] == "silo")
            self.layers = [[first_way(self.layout)]]
        return why

    def why_no_name(self, words):
        if len(words) != 2 or not is_name(words[1]):
            return WRONG_FORM
        if self.layout.has_name(words[1]):
            return TWICE
        if self.entries != []:
            return TOO_LATE
        if words[0] == "lot":
            full = len(self.layout.lots) == MOST_LOTS
        else:
            full = len(self.layout.places) == MOST_PLACES
        return TOO_MANY if full else GOOD

    def why_no_entry(self, told):
        for words in told:
            why = why_wrong(words, self.layout)
            if why != GOOD:
                return why
        if len(set([tuple(words) for words in told])) < len(told):
            return TWICE
        if len(told) > MOST_DEEDS or len(self.entries) == MOST_ENTRIES:
            return TOO_MANY
        return GOOD

    def add_entry(self, told):
        why = self.why_no_entry(told)
        if why != GOOD:
            return why
        deeds = [deed_of(words, self.layout) for words in told]
        ways = next_ways(self.ways(), deeds, self.layout)
        if ways == []:
            return NO_WAY
        if len(ways) > MOST_WAYS:
            return TOO_MANY_WAYS
        self.entries.append(deeds)
        self.layers.append(ways)
        return GOOD

    def settle(self, entry, choice):
        """Leaves the entry that deed alone and answers True; or changes nothing, if there'd be no way."""
        later = [settled(ways, entry, choice) for ways in self.layers[entry + 1:]]
        if later[-1] == []:
            return False
        self.entries[entry] = [self.entries[entry][choice]]
        self.layers = self.layers[:entry + 1] + later
        return True

    def undo(self):
        """There is an entry."""
        self.entries.pop()
        self.layers.pop()

    def shown(self):
        """The store's text."""
        lines = [f"lot {name}\n" for name in self.layout.lots]
        for name, silo in zip(self.layout.places, self.layout.silos):
            kind = "silo" if silo else "bag"
            lines.append(f"{kind} {name}\n")
        for deeds in self.entries:
            lines.append(" or ".join([" ".join(deed.words) for deed in deeds]) + "\n")
        return "".join(lines)


def read_text(text):
    """A ledger of these bytes, None; or None and what's wrong: the line's number and why."""
    signs = signs_of(text)
    lines = signs.split("\n")
    # What stands behind the last line's end is no line, and has to be empty.
    if lines.pop() != "":
        return (None, [len(lines) + 1, WRONG_FORM])
    ledger = Ledger()
    for number, line in enumerate(lines, start=1):
        why = ledger.add_line(line)
        if why != GOOD:
            return (None, [number, why])
    return (ledger, None)
