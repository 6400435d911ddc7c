"""Clefs: how many small lines heads need, and which clef each bar has so that there are few."""

LETTERS_BY_STEPS = "CDEFGAB"
CLEFS = (0, 1, 2)
# The step of each clef's lowest line, and how many steps higher the highest is.
LOWEST_LINES = (37, 31, 25)
STEPS_BETWEEN = 8
# What a bar costs whose clef is not that of the bar ahead.
CHANGE = 4


def step_of(head):
    """The step of a head."""
    return 7 * head[1] + LETTERS_BY_STEPS.index(head[0])


def small_lines(step, clef):
    """How many small lines a head at a step needs in a clef."""
    lowest = LOWEST_LINES[clef]
    above = step - lowest - STEPS_BETWEEN
    below = lowest - step
    return max(above, below, 0) // 2


def steps_of(bar):
    """The steps of all heads of a bar."""
    row = []
    for voice in bar:
        for event in voice:
            if event[0] == "note":
                row.extend([step_of(head) for head in event[2]])
    return row


def lines_of(steps, clef):
    """How many small lines heads at these steps need together in a clef."""
    return sum([small_lines(step, clef) for step in steps])


def prices_behind(prices, ahead):
    """The prices of the clefs at a bar, each with what it costs to change to it from the clef ahead."""
    return [prices[clef] if clef == ahead else prices[clef] + CHANGE for clef in CLEFS]


def clef_prices(bars):
    """The list that has for each bar the list of the prices of the three clefs."""
    told = []
    # Behind the last bar nothing costs anything.
    prices = [0, 0, 0]
    for bar in reversed(bars):
        steps = steps_of(bar)
        prices = [lines_of(steps, clef) + min(prices_behind(prices, clef)) for clef in CLEFS]
        told.append(prices)
    return list(reversed(told))


def clefs(bars):
    """The list of the bars' clefs: of the cheapest rows the first one by order."""
    row = []
    for prices in clef_prices(bars):
        # No clef stands ahead of the first bar's, so none is changed there.
        costs = prices_behind(prices, row[-1]) if row else prices
        row.append(costs.index(min(costs)))
    return row
