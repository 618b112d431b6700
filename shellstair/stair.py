"""The stair: what its steps are worth, what a heap weighs, and where a heap is still."""


# The worths of the lowest steps, as many as asked for: the one place that knows how worth grows.
def worths(count):
    told = []
    here = 1
    above = 2
    for step in range(count):
        told.append(here)
        after = here + above
        here = above
        above = after
    return told


def worth(step):
    return worths(step + 1)[step]


def weight(heap):
    return sum([shells * value for shells, value in zip(heap, worths(len(heap)))])


def is_still(heap):
    # Beneath step 0 lies nothing, so step 0 has no lower neighbour to clash with.
    beneath = 0
    for shells in heap:
        if shells > 1:
            return False
        if shells == 1 and beneath == 1:
            return False
        beneath = shells
    return True
