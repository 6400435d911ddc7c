"""Bars for the tests, scattered by plain counting, so that they are the same at each run."""

VALUES = (1, 2, 3, 4, 6, 7, 8, 12, 14, 16, 24, 28, 32, 48, 56, 64, 96, 112)


class Dice:
    """Numbers that look thrown, told by their seed."""

    def __init__(self, seed):
        self.state = seed

    def below(self, many):
        """A number from 0 to ahead of many."""
        self.state = (self.state * 1103515245 + 12345) % 2 ** 31
        return (self.state >> 12) % many

    def pick(self, row):
        """One thing of a row."""
        return row[self.below(len(row))]


def thrown_pitches(dice):
    """One to four pitches, rising, so near to each other that letters and octaves come again."""
    low = 57 + dice.below(4)
    return tuple(sorted({low + dice.below(9) for _ in range(1 + dice.below(4))}))


def far_pitches(dice):
    """One to three pitches, rising, from everywhere."""
    return tuple(sorted({dice.below(128) for _ in range(1 + dice.below(3))}))


def thrown_heads(dice):
    """One to four heads, in any order, of few octaves, with and without signs, some of them twice."""
    return tuple((dice.pick("CDEFGAB"), 4 + dice.below(2), dice.pick((None, None, None, -2, -1, 0, 1, 2)))
                 for _ in range(1 + dice.below(4)))


def as_many_heads(dice, ahead):
    """Any heads, as many as there are in the event ahead."""
    row = ()
    while len(row) < len(ahead):
        row += thrown_heads(dice)
    return row[:len(ahead)]


def same_pitches(dice, ahead):
    """The very pitches of the event ahead."""
    return ahead


def scattered_row(dice, length, last, tied, made, gone_on):
    """(events, tied things) of a voice in a bar; tied is what goes on from the bar ahead, or None."""
    row = []
    while length:
        value = dice.pick([value for value in VALUES if value <= length and (value < 33 or not dice.below(3))])
        length -= value
        if tied is None and dice.below(4) == 0:
            row.append(("rest", value))
            continue
        things = made(dice) if tied is None else gone_on(dice, tied)
        # Behind the last event of all there is none to tie it to.
        goes_on = dice.below(3) == 0 and not (last and length == 0)
        row.append(("note", value, things, goes_on))
        tied = things if goes_on else None
    return row, tied


def scattered_bars(seed, lengths, voices, made=thrown_pitches, gone_on=same_pitches):
    """Bars of these lengths, each a list that has for each voice the list of its events."""
    dice = Dice(seed)
    tied = [None] * voices
    bars = []
    for at, length in enumerate(lengths):
        bars.append([])
        for voice in range(voices):
            last = at == len(lengths) - 1
            row, tied[voice] = scattered_row(dice, length, last, tied[voice], made, gone_on)
            bars[-1].append(row)
    return bars


def copied(bars):
    """The same bars in lists of their own."""
    return [[list(row) for row in bar] for bar in bars]


def spoilt(bars):
    """Every list of the bars, and their own, changed."""
    for bar in bars:
        for row in bar:
            row.append(None)
        bar.append(None)
    bars.append(None)
