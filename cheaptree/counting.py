"""How many trees a net has."""

from cheaptree.pieces import neighbours, pieces


def table(beside, places):
    """For each of the places a row with a number for each: of itself its ties, of another one less those between."""
    rows = []
    for here in places:
        beyond = [place for name, place in beside[here]]
        rows.append([len(beyond) if place == here else -beyond.count(place) for place in places])
    return rows


def determinant(rows):
    """The determinant of a square table whose upper left squares all have one above nought."""
    ahead = 1
    while rows:
        first = rows[0]
        # Each division leaves no rest, so all stays whole.
        rows = [[(first[0] * row[k] - row[0] * first[k]) // ahead for k in range(1, len(row))] for row in rows[1:]]
        ahead = first[0]
    return ahead


def how_many(net):
    """How many trees there are in all."""
    beside = neighbours(net)
    many = 1
    for piece in pieces(net):
        # By Kirchhoff's theorem: the table of a piece, less the row and the column of one place, tells its trees.
        many = many * determinant(table(beside, piece[1:]))
    return many
