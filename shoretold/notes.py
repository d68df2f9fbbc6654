"""Islands as texts: each deed a line, and what a line tells."""

from shoretold.errors import BadText, ShoreError
from shoretold.island import Island

# What each deed is handed, in order; "names" are all words that are left, so they stand last.
FORMS = {
    "dig": ("word", "number", "number", "word"),
    "fill": ("word",),
    "land": ("word", "number"),
    "walk": ("word", "word"),
    "go": ("word", "names"),
    "leave": ("word",),
    "fence": ("word", "names"),
    "unfence": ("word",),
    "call": ("word", "names"),
    "close": ("word",),
    "turn": ("number",),
}
# No row has so many ends, and a text of very many figures can't be read as a number at all.
LONGEST_NUMBER = 9


def words_of(thing):
    """The words by which what a deed was handed is written."""
    if isinstance(thing, tuple):
        return list(thing)
    return [str(thing)]


def line_of(deed):
    """The line by which a deed is written."""
    words = []
    for thing in deed:
        words.extend(words_of(thing))
    return " ".join(words)


def number_in(word):
    """The number that a word writes in figures, None where it doesn't."""
    if not 1 <= len(word) <= LONGEST_NUMBER or any([not "0" <= sign <= "9" for sign in word]):
        return None
    if word[0] == "0" and word != "0":
        return None
    return int(word)


def deed_in(line):
    """The deed that a line tells, None where it tells none."""
    deed, *words = line.split(" ")
    if deed not in FORMS:
        return None
    form = FORMS[deed]
    if form[-1] == "names":
        single = len(form) - 1
        words = words[:single] + [tuple(words[single:])]
    if len(words) != len(form):
        return None
    things = [number_in(word) if kind == "number" else word for kind, word in zip(form, words)]
    if None in things:
        return None
    return tuple([deed] + things)


def written(island):
    """The text of an island: its deeds that count, line by line."""
    return "\n".join([line_of(deed) for deed in island.deeds()])


def read_back(text):
    """The island in which the deeds of a text were done one by one."""
    island = Island()
    lines = text.split("\n") if text else []
    for line in lines:
        deed = deed_in(line)
        if deed is None:
            raise BadText(f"no deed is written {line!r}")
        try:
            island.do(deed)
        except ShoreError as refusal:
            raise BadText(f"refused where it stands: {line!r}") from refusal
    return island
