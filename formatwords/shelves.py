"""Shelves: kinds by names and what is kept of them, as they are between two deeds; and Nameds."""

from formatwords.kinds import Cases, Listing, Named, Padded, Record


class Shelf:
    """Kinds by names, the names that are kept clear, and the pairs that are kept apart; it is never changed."""

    def __init__(self, kinds, clears, pairs):
        self.kinds = kinds
        self.clears = clears
        self.pairs = pairs


def exchanged(kind, kinds):
    """The kind with others in place of its Nameds: those that these names have; Nameds of other names stay."""
    if isinstance(kind, Named):
        return kinds.get(kind.name, kind)
    if isinstance(kind, Listing):
        return Listing(exchanged(kind.kind, kinds), kind.between, least=kind.least, most=kind.most)
    if isinstance(kind, Padded):
        return Padded(exchanged(kind.kind, kinds), kind.width, fill=kind.fill, side=kind.side)
    if isinstance(kind, Cases):
        return Cases([(tag, exchanged(one, kinds)) for tag, one in kind.cases])
    if isinstance(kind, Record):
        return Record([exchanged_piece(piece, kinds) for piece in kind.pieces], unwritten=kind.unwritten)
    return kind


def exchanged_piece(piece, kinds):
    """The piece of a Record with others in place of its Nameds."""
    if isinstance(piece, tuple) and len(piece) == 2:
        return piece[0], exchanged(piece[1], kinds)
    return piece


def nameds_of(kind):
    """The names of all Nameds of a kind, in the order of its text, some perhaps twice."""
    if isinstance(kind, Named):
        return [kind.name]
    if isinstance(kind, (Listing, Padded)):
        return nameds_of(kind.kind)
    fields = []
    if isinstance(kind, Cases):
        fields = kind.cases
    if isinstance(kind, Record):
        fields = [piece for piece in kind.pieces if isinstance(piece, tuple)]
    return [name for field in fields for name in nameds_of(field[1])]


def whole_kinds(kinds, names):
    """The kinds of these names, and of all that they need, with no Named in them, by names; there is no ring."""
    whole = {}
    ahead = list(names)
    while len(ahead) > 0:
        name = ahead[-1]
        lacking = [other for other in nameds_of(kinds[name]) if other not in whole]
        if name in whole or len(lacking) == 0:
            whole[name] = exchanged(kinds[ahead.pop()], whole)
        else:
            ahead.extend(lacking)
    return whole


def first_ring(kinds):
    """The shortest list of names from one back to it, each having a Named of the next, the first such; or None."""
    links = {name: sorted({other for other in nameds_of(kinds[name])}) for name in kinds}
    best = None
    for name in sorted(kinds):
        ring = ring_from(name, links)
        if ring is not None and (best is None or len(ring) < len(best)):
            best = ring
    return best


def ring_from(name, links):
    """The shortest such list from this name, the first as lists are, or None."""
    ways = [[name]]
    seen = {name: True}
    # The ways are looked at in their order, and each goes on in the order of names: so the first one home is the first.
    while len(ways) > 0:
        further = []
        for way in ways:
            for other in links[way[-1]]:
                if other == name:
                    return way + [name]
                if other not in seen:
                    seen[other] = True
                    further.append(way + [other])
        ways = further
    return None
