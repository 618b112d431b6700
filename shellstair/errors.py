"""The refusals of shellstair, one class for each kind."""


# Any refusal: whoever wants to take them all takes this one.
class StairError(ValueError):
    pass


# A move that does not fit the heap.
class NoMove(StairError):
    pass


# Something that is no number of the asked bounds.
class NoNumber(StairError):
    pass


# More is to be taken away than there is.
class Short(StairError):
    pass


# A text with another sign than the two that tell shells and gaps.
class NoSign(StairError):
    pass


# A text that goes on behind its last number's end.
class NoEnd(StairError):
    pass
