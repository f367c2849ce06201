"""Signs, words, and the form of names, kilograms and deeds."""

from greentrace.ratios import whole

LETTERS = "abcdefghijklmnopqrstuvwxyz"
DIGITS = "0123456789"
# Stands for each byte that no right word can hold; all such bytes are equally wrong.
STRANGE = "?"
LONGEST_NAME = 8
LONGEST_KILOS = 4

GOOD = 0
WRONG_FORM = 1
NOT_THERE = 3

# LOT, KG and PLACE stand for such a word; any other word stands for itself.
FORMS = {
    "come": ("come", "LOT", "KG", "to", "PLACE"),
    "move": ("move", "KG", "from", "PLACE", "to", "PLACE"),
    "weigh": ("weigh", "PLACE", "KG"),
    "sell": ("sell", "KG", "from", "PLACE"),
    "waste": ("waste", "KG", "from", "PLACE"),
}


class Deed:
    """A deed as it was told, and what its words mean: lot and places are numbers."""

    def __init__(self, words, kilos, lot, places):
        self.words = words
        self.kilos = kilos
        self.lot = lot
        self.places = places


def signs_of(row):
    signs = {}
    for sign in LETTERS + DIGITS + " \n":
        signs[ord(sign)] = sign
    return "".join([signs.get(byte, STRANGE) for byte in row])


def bytes_of(signs):
    return [ord(sign) for sign in signs]


def holds_only(word, signs):
    return all([sign in signs for sign in word])


def is_name(word):
    if word == "" or word == "or" or len(word) > LONGEST_NAME:
        return False
    return word[0] in LETTERS and holds_only(word, LETTERS + DIGITS)


def is_kilos(word):
    if word == "" or word[0] == "0" or len(word) > LONGEST_KILOS:
        return False
    return holds_only(word, DIGITS)


def fits(word, wanted):
    if wanted == "KG":
        return is_kilos(word)
    if wanted == "LOT" or wanted == "PLACE":
        return is_name(word)
    return word == wanted


def told_deeds(words):
    """The words of each deed of an entry: what stands between the words `or`."""
    deeds = [[]]
    for word in words:
        if word == "or":
            deeds.append([])
        else:
            deeds[-1].append(word)
    return deeds


def has_form(words):
    if words == [] or words[0] not in FORMS:
        return False
    form = FORMS[words[0]]
    if len(words) != len(form):
        return False
    return all([fits(word, wanted) for word, wanted in zip(words, form)])


def words_for(words, wanted):
    """The words that stand where the deed's form has the wanted one."""
    return [word for word, part in zip(words, FORMS[words[0]]) if part == wanted]


def why_wrong(words, layout):
    """What's wrong with one deed, or GOOD."""
    if not has_form(words):
        return WRONG_FORM
    lots_there = all([name in layout.lots for name in words_for(words, "LOT")])
    places_there = all([name in layout.places for name in words_for(words, "PLACE")])
    if lots_there and places_there:
        return GOOD
    return NOT_THERE


def deed_of(words, layout):
    """The deed that these words tell; nothing is wrong with them."""
    kilos = whole(int(words_for(words, "KG")[0]))
    lot = None
    for name in words_for(words, "LOT"):
        lot = layout.lots.index(name)
    places = [layout.places.index(name) for name in words_for(words, "PLACE")]
    return Deed(words, kilos, lot, places)
