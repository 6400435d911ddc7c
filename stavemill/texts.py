"""Texts: a page written as rows of signs, and read."""

from stavemill.errors import BadText, StaveError
from stavemill.names import PITCHES
from stavemill.pages import remade

# How the sign of a head is written, and read.
SIGN_WORDS = {None: "", -2: "bb", -1: "b", 0: "n", 1: "s", 2: "ss"}
SIGNS = {"": None, "bb": -2, "b": -1, "n": 0, "s": 1, "ss": 2}
SIGN_LETTERS = "bns"


def shown_row(first, words):
    """A row that begins with a word and has others, each behind a blank."""
    return " ".join([first] + words)


def shown_change(change):
    """A tuple of a meter as it is written."""
    return str(change[0]) + ":" + str(change[1]) + "x" + str(change[2])


def shown_head(head):
    """A head as it is written."""
    return head[0] + str(head[1]) + SIGN_WORDS[head[2]]


def shown_event(event):
    """An event as it is written."""
    value = str(event[1])
    if event[0] == "rest":
        return "r" + value
    heads = "+".join([shown_head(head) for head in event[2]])
    tie = "~" if event[3] else ""
    return heads + "/" + value + tie


def shown_voice(row):
    """The row of a voice's events in a bar."""
    return shown_row(":", [shown_event(event) for event in row])


def shown(page):
    """The text that a page is written as."""
    rows = [
        shown_row("key", [str(page[0])]),
        shown_row("meter", [shown_change(change) for change in page[1]]),
        shown_row("room", [str(page[2])]),
    ]
    for number, bar in enumerate(page[5]):
        if number in page[4]:
            rows.append("line")
        rows.append(shown_row("bar", [str(page[3][number])]))
        rows.extend([shown_voice(voice) for voice in bar])
    return "".join([row + "\n" for row in rows])


def told_number(word):
    """The number that a word tells; what tells none is refused with BadText."""
    try:
        number = int(word)
    except ValueError:
        raise BadText("no number where one should stand") from None
    return number


def told_change(word):
    """The tuple of a meter that a word tells."""
    sides = word.partition(":")
    length = sides[2].partition("x")
    return (told_number(sides[0]), told_number(length[0]), told_number(length[2]))


def told_head(word):
    """The head that a word tells; what tells none is refused with BadText."""
    letter = word[:1]
    octave = word[1:].rstrip(SIGN_LETTERS)
    sign = word[1 + len(octave):]
    if letter not in PITCHES or sign not in SIGNS:
        raise BadText("no head where one should stand")
    return (letter, told_number(octave), SIGNS[sign])


def told_event(word):
    """The event that a word tells."""
    if word.startswith("r"):
        return ("rest", told_number(word[1:]))
    sides = word.rstrip("~").partition("/")
    heads = tuple([told_head(head) for head in sides[0].split("+")])
    return ("note", told_number(sides[2]), heads, word.endswith("~"))


def words_behind(row):
    """The words of a row behind its first one."""
    return row.split(" ")[1:]


def told_bars(rows):
    """The bars that rows tell; a voice without a bar is refused with BadText."""
    bars = []
    for row in rows:
        if row.startswith("bar"):
            bars.append([])
        elif row.startswith(":"):
            if not bars:
                raise BadText("a voice ahead of the first bar")
            bars[-1].append([told_event(word) for word in words_behind(row)])
    return bars


def told_page(rows):
    """The page that rows tell, without its clefs and lines; rows that tell none are refused with BadText."""
    # Only what notes, key, meter and room are read from is looked at: read finds what else is wrong.
    if len(rows) < 3:
        raise BadText("too few rows")
    key = told_number(rows[0].partition(" ")[2])
    meter = [told_change(word) for word in words_behind(rows[1])]
    room = told_number(rows[2].partition(" ")[2])
    return (key, meter, room, [], [], told_bars(rows[3:]))


def read(text):
    """The page that a text is written as; what no page that can be made is written as is refused with BadText."""
    if not isinstance(text, str):
        raise BadText("not a text")
    told = told_page(text.split("\n"))
    try:
        made = remade(told)
    except StaveError:
        raise BadText("what is told can't be made a page") from None
    # A page follows from its notes, key, meter and room, so there is but one text that tells these:
    # whatever this one has too much, too little or otherwise makes it another.
    if shown(made) != text:
        raise BadText("not as the page of its notes is written")
    return made
