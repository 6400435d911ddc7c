"""Bars and notes for the tests, scattered by plain counting, so that they are the same at each run."""

VALUES = (1, 2, 3, 4, 6, 7, 8, 12, 14, 16, 24, 28, 32, 48, 56, 64, 96, 112)


class Dice:
    """Numbers that look thrown, told by their seed."""

    def __init__(self, seed):
        self.state = seed

    def below(self, many):
        """A number from 0 to ahead of many."""
        self.state = (self.state * 1103515245 + 12345) % 2 ** 31
        return (self.state >> 12) % many

    def pick(self, row):
        """One thing of a row."""
        return row[self.below(len(row))]


def thrown_pitches(dice):
    """One to four pitches, rising, so near to each other that letters and octaves come again."""
    low = 57 + dice.below(4)
    return tuple(sorted({low + dice.below(9) for _ in range(1 + dice.below(4))}))


def far_pitches(dice):
    """One to three pitches, rising, from everywhere."""
    return tuple(sorted({dice.below(128) for _ in range(1 + dice.below(3))}))


def thrown_heads(dice):
    """One to four heads, in any order, of few octaves, with and without signs, some of them twice."""
    return tuple((dice.pick("CDEFGAB"), 4 + dice.below(2), dice.pick((None, None, None, -2, -1, 0, 1, 2)))
                 for _ in range(1 + dice.below(4)))


def as_many_heads(dice, ahead):
    """Any heads, as many as there are in the event ahead."""
    row = ()
    while len(row) < len(ahead):
        row += thrown_heads(dice)
    return row[:len(ahead)]


def same_pitches(dice, ahead):
    """The very pitches of the event ahead."""
    return ahead


def scattered_row(dice, length, last, tied, made, gone_on):
    """(events, tied things) of a voice in a bar; tied is what goes on from the bar ahead, or None."""
    row = []
    while length:
        value = dice.pick([value for value in VALUES if value <= length and (value < 33 or not dice.below(3))])
        length -= value
        if tied is None and dice.below(4) == 0:
            row.append(("rest", value))
            continue
        things = made(dice) if tied is None else gone_on(dice, tied)
        # Behind the last event of all there is none to tie it to.
        goes_on = dice.below(3) == 0 and not (last and length == 0)
        row.append(("note", value, things, goes_on))
        tied = things if goes_on else None
    return row, tied


def scattered_bars(seed, lengths, voices, made=thrown_pitches, gone_on=same_pitches):
    """Bars of these lengths, each a list that has for each voice the list of its events."""
    dice = Dice(seed)
    tied = [None] * voices
    bars = []
    for at, length in enumerate(lengths):
        bars.append([])
        for voice in range(voices):
            last = at == len(lengths) - 1
            row, tied[voice] = scattered_row(dice, length, last, tied[voice], made, gone_on)
            bars[-1].append(row)
    return bars


def copied(bars):
    """The same bars in lists of their own."""
    return [[list(row) for row in bar] for bar in bars]


def spoilt(bars):
    """Every list of the bars, and their own, changed."""
    for bar in bars:
        for row in bar:
            row.append(None)
        bar.append(None)
    bars.append(None)


def spoilt_page(told):
    """Every list of a page changed."""
    spoilt(told[5])
    for row in (told[1], told[3], told[4]):
        row.clear()


def together(notes, tick):
    """How many chords sound at a tick."""
    return len({(start, length) for start, length, pitch in notes if start <= tick < start + length})


def fits(notes, note):
    """Whether a note can stand beside others: none of its pitch overlaps it, nowhere more than 8 chords sound."""
    for start, length, pitch in notes:
        if pitch == note[2] and start < note[0] + note[1] and note[0] < start + length:
            return False
    longer = notes + [note]
    return all(together(longer, start) <= 8 for start, length, pitch in longer)


def scattered_notes(dice):
    """Notes, in any order: chords and single ones, some far, some near to each other, no more than may be."""
    last = dice.pick((0, 30, 200, 1000))
    longest = dice.pick((8, 40, 400))
    low = dice.below(100)
    high = low + dice.pick((5, 28, 128 - low))
    notes = []
    for _ in range(dice.pick((1, 3, 10, 30, 60))):
        start = dice.below(last + 1)
        length = 1 + dice.below(longest)
        if notes and dice.below(3) == 0:
            start, length = dice.pick(notes)[:2]
        note = (start, length, min(low + dice.below(high - low), 127))
        if fits(notes, note):
            notes.append(note)
    return notes


def scattered_meter(dice):
    """A meter of one to five tuples."""
    meter = []
    bar = 0
    while len(meter) < 1 + dice.below(5):
        top = 1 + dice.below(24)
        unit = dice.pick((1, 2, 4, 8, 16, 32, 64))
        if 8 <= top * unit <= 512:
            meter.append((bar, top, unit))
            bar += 1 + dice.below(dice.pick((1, 4, 200)))
    return meter


def scattered_cases(many):
    """Tuples (notes, key, meter) of which each can be made a page in a room of 5000."""
    told = []
    for seed in range(many):
        dice = Dice(1000 + 7 * seed)
        told.append((scattered_notes(dice), dice.below(15) - 7, scattered_meter(dice)))
    return told
