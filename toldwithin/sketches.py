"""Sketches: bounded rows whose long numbers are cut short, to find out quickly which basis is worth a trial."""

from toldwithin.climbs import Bounded, climb
from toldwithin.ratios import Ratio
from toldwithin.sums import shared_by

# So many bits are looked at, one behind the other; rows with numbers that are not much longer need no sketch.
GUESSED_BITS = (256, 2048, 16384)


class Sketch:
    """Bounded rows with the divisors that all numbers of a row have in common taken out.

    For each column, `lengths` tells about how many bits the numbers of a point are longer there than elsewhere.
    """

    def __init__(self, bounded, lengths):
        self.lengths = lengths
        rows = [self.lengthened(row) for row in bounded.rows]
        shared = [shared_by(row) for row in rows]
        self.rows = [[part // divisor for part in row] for row, divisor in zip(rows, shared)]
        # Where rows are plain sums of each other, what is left of them is short, and so are these.
        scales = [Ratio(bounded.unit, divisor) for divisor in shared]
        self.tops = [scale.top for scale in scales]
        self.bottoms = [scale.bottom for scale in scales]
        self.lows = bounded.lows
        self.highs = bounded.highs

    def lengthened(self, row):
        """A row for a point whose numbers are shorter by the lengths."""
        return [part << length for part, length in zip(row, self.lengths)]

    def shortened(self, bits):
        """Nearly the same bounded rows, with no number of a row longer than this."""
        shifts = [shift_of(row, bits) for row in self.rows]
        lows = self.shortened_bounds(self.lows, shifts)
        highs = self.shortened_bounds(self.highs, shifts)
        # Bounds may be of very unlike lengths, and long ones do not take much longer.
        drop = shift_of([*lows, *highs], 16 * bits)
        rows = [shortened_row(row, bits) for row in self.rows]
        return Bounded(rows, [low >> drop for low in lows], [high >> drop for high in highs], len(self.lengths), 1)

    def shortened_bounds(self, bounds, shifts):
        """Bounds of rows that lose so many bits, all told over as much as the most that a row loses."""
        most = max([int(shift) for shift in shifts], default=0)
        return [
            (bound * top << (most - shift)) // bottom
            for bound, top, bottom, shift in zip(bounds, self.tops, self.bottoms, shifts)
        ]


def sketch_of(bounded, lengths):
    """A sketch, or None if the rows have no long numbers."""
    return Sketch(bounded, lengths) if is_longer(bounded, GUESSED_BITS[0]) else None


def is_longer(bounded, bits):
    return bits_of([part for row in bounded.rows for part in row]) > 2 * bits


def highest(bounded, sketch, aim, near):
    """The outcome for an aim; a basis that is near the last one helps to find it."""
    for bits in GUESSED_BITS:
        if is_longer(bounded, bits):
            near = climb(sketch.shortened(bits), shortened_row(sketch.lengthened(aim), bits), near).basis
    return climb(bounded, aim, near)


def bits_of(numbers):
    """The length of the longest integer."""
    return max([int(number.bit_length()) for number in numbers], default=0)


def shift_of(numbers, bits):
    """How many bits the longest integer has more than told."""
    return max(0, bits_of(numbers) - bits)


def shortened_row(row, bits):
    """A row with the first bits of its longest number, and as much of the other ones as goes with that."""
    shift = shift_of(row, bits)
    return [part >> shift for part in row]
