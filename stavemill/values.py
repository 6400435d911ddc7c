"""The lengths that can be written, and how other lengths are cut into them."""

# Each length that can be written, with its base and dots.
# The greatest comes first, since pieces are tried in this order.
SHAPES = {
    112: (64, 2),
    96: (64, 1),
    64: (64, 0),
    56: (32, 2),
    48: (32, 1),
    32: (32, 0),
    28: (16, 2),
    24: (16, 1),
    16: (16, 0),
    14: (8, 2),
    12: (8, 1),
    8: (8, 0),
    7: (4, 2),
    6: (4, 1),
    4: (4, 0),
    3: (2, 1),
    2: (2, 0),
    1: (1, 0),
}


def can_write(length):
    """Whether a length is one that can be written."""
    return length in SHAPES


def base_and_dots(value):
    """The tuple (base, dots) of a length that can be written."""
    return SHAPES[value]


def pieces(length):
    """The list of the values that a length is cut into, the greatest first."""
    row = []
    left = length
    for value in SHAPES:
        while value <= left:
            row.append(value)
            left -= value
    return row
