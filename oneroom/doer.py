"""The doer: a paper done piece by piece in the room of the elder text, and gone on with behind a fall."""

from oneroom.errors import OutOfRoom
from oneroom.rows import Take, row_of


def pieces_of(paper):
    pieces = []
    for told in paper[2]:
        pieces.extend([(told, cells) for cells in row_of(told).pieces()])
    return pieces


# What was done ahead of a fall is known by the notebook alone, so each piece is noted as soon as it is done.
def go_on(store, paper):
    size = len(store.told()[0])
    refuse_lengths(size, paper)
    pieces = pieces_of(paper)
    first = store.noted()
    left = pieces[first:]
    refuse_beyond(size, left)
    for number, piece in enumerate(left, start=first):
        do_piece(store, row_of(piece[0]), piece[1])
        store.mark(number + 1)
    return len(left)


def refuse_lengths(size, paper):
    greater = max(paper[0], paper[1])
    if size < greater:
        raise OutOfRoom(greater)


# Only a paper with a fault needs such a place. Looked for ahead of the first write, since a refusal changes nothing.
def refuse_beyond(size, pieces):
    for told, cells in pieces:
        for at in places_needed(row_of(told), cells):
            if at >= size:
                raise OutOfRoom(at)


def places_needed(row, cells):
    places = []
    for cell in cells:
        if isinstance(row, Take):
            places.append(row.source_for(cell))
        places.append(cell)
    return places


def do_piece(store, row, cells):
    for cell in cells:
        store.write(cell, row.sign_for(cell, lambda at: store.read(at)))
