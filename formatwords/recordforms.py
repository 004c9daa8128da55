"""How the pieces of a Record hang together: which of them need a width that another one tells."""


class RecordForm:
    """For each piece the name of the width that it hangs on, or None; what these may be; and those that none needs."""

    def __init__(self, record):
        others = {piece[2]: True for piece in record.pieces if isinstance(piece, tuple) and len(piece) == 3}
        self.pieces = record.pieces
        self.needs = [need_of(piece, others) for piece in record.pieces]
        self.choices = {}
        for piece in record.pieces + record.unwritten:
            if isinstance(piece, tuple) and piece[0] in others:
                self.choices[piece[0]] = widths_of(piece[1])
        self.spare = [(name, widths_of(kind)) for name, kind in record.unwritten if name not in others]

    def row_of_width(self, at, width):
        """The row of a piece that tells a width."""
        return self.pieces[at][1].write(width)

    def is_wide(self, at):
        """Whether a piece has its width told."""
        return len(self.pieces[at]) == 3

    def reach(self, at, fixed):
        """The number behind the last piece that hangs together with this one, by widths that are not fixed."""
        end = at + 1
        number = at
        while number < end:
            name = self.needs[number]
            if name is not None and name not in fixed:
                end = max(end, 1 + max([place for place, need in enumerate(self.needs) if need == name]))
            number += 1
        return end


def need_of(piece, others):
    """The name of the width that a piece hangs on, or None: the one that it has told, or that it tells itself."""
    if isinstance(piece, str):
        return None
    if len(piece) == 3:
        return piece[2]
    return piece[0] if piece[0] in others else None


def widths_of(number):
    """All numbers of a Number that tells widths."""
    return [width for width in range(number.least, number.most + 1) if number.has(width)]
