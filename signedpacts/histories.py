"""The histories of the done plays of a pact ([52], [54])."""
from signedpacts.machines import Machine
from signedpacts.parties import check_marks
from signedpacts.sketches import Sketch
from signedpacts.spans import Spans
from signedpacts.subsets import mask_of, subsets


def histories(pact, *, letters):
    """The machine that accepts the histories of the done plays, without the marks that are not letters."""
    check_marks(letters)
    sketch = Sketch(letters)
    is_empty, firsts, lasts = sketch.draw_parts(pact.parts)
    # One state for each event that was the last one so far, and one for the beginning.
    behind = [*sketch.nexts, firsts]
    start = 1 << len(sketch.marks)
    moves = []
    for letter in letters:
        with_letter = mask_of([event for event, mark in enumerate(sketch.marks) if mark == letter])
        moves.append([mask & with_letter for mask in behind])
    rows, masks = subsets(moves, start, [0 for _ in behind])
    ends = lasts | (start if is_empty else 0)
    return Machine(letters, rows, [state for state, mask in enumerate(masks) if mask & ends])


def first_history(pact, duty):
    """The first history of a done play that the duty accepts, or None."""
    return (histories(pact, letters=duty.letters) & duty).first_text()


def moves_for(pact, history, *, letters):
    """The moves of a done play with this history, without the marks that are not letters, or None."""
    check_marks(letters)
    spans = Spans(history, letters)
    if len(history) not in spans.stops_behind(pact.parts, 0):
        return None
    return tuple(spans.moves_through(pact.parts, 0, len(history)))
