"""Moves: which ones fit a heap, what lies behind one, and a heap carried on until none fits."""

from shellstair.errors import NoMove


# The step may lie far beyond the list, where no shell lies; beneath step 0 an index would count from the list's end.
def can_join(heap, step):
    return 0 <= step < len(heap) - 1 and heap[step] > 0 and heap[step + 1] > 0


def can_part(heap, step):
    return 0 <= step < len(heap) and heap[step] > 1


def fits(heap, move):
    if move[0] == "join":
        return can_join(heap, move[1])
    return move[0] == "part" and can_part(heap, move[1])


def moves(heap):
    told = []
    for step in range(len(heap)):
        if can_join(heap, step):
            told.append(("join", step))
        if can_part(heap, step):
            told.append(("part", step))
    return told


# Pairs of a step and the shells that it gains; less than 0 where it loses some.
def gains(move):
    step = move[1]
    if move[0] == "join":
        return [(step, -1), (step + 1, -1), (step + 2, 1)]
    gained = [(step, -2), (step + 1, 1)]
    if step > 0:
        # Two steps down from step 1 there is no step: its shell comes to lie on step 0.
        gained.append((max(step - 2, 0), 1))
    return gained


def done(heap, move):
    if not fits(heap, move):
        raise NoMove("the move does not fit the heap")
    # The topmost shell that a fitting move lays lies at most one step above the list.
    behind = heap + [0]
    for step, shells in gains(move):
        behind[step] += shells
    # Every move lays a shell, so there is one to stop at.
    while behind[-1] == 0:
        behind.pop()
    return behind


def picked(fitting, picks, number):
    if not picks:
        return fitting[0]
    return fitting[picks[number % len(picks)] % len(fitting)]


def carried(heap, picks=None):
    # The asker's own list is told also where no move fits.
    here = list(heap)
    log = []
    fitting = moves(here)
    while fitting:
        move = picked(fitting, picks, len(log))
        here = done(here, move)
        log.append(move)
        fitting = moves(here)
    return (here, log)
