"""The refusals: each is a class of its own, whose fields hold the very things that were handed in."""


class PaneError(ValueError):
    pass


class NoRow(PaneError):
    def __init__(self, found):
        self.found = found


class NoPlain(PaneError):
    def __init__(self, found):
        self.found = found


class NoNames(PaneError):
    def __init__(self, found):
        self.found = found


class NoLetter(PaneError):
    def __init__(self, found):
        self.found = found


class NoPlace(PaneError):
    def __init__(self, found):
        self.found = found


class NoSpan(PaneError):
    def __init__(self, begin, end):
        self.begin = begin
        self.end = end


class NoThread(PaneError):
    def __init__(self, found):
        self.found = found


class NoTurning(PaneError):
    def __init__(self, found):
        self.found = found


class NoCounts(PaneError):
    def __init__(self, found):
        self.found = found


class NoSteps(PaneError):
    def __init__(self, found):
        self.found = found


class NoCells(PaneError):
    def __init__(self, found):
        self.found = found


class NoWindow(PaneError):
    def __init__(self, found):
        self.found = found


class NoPiece(PaneError):
    def __init__(self, found):
        self.found = found


class Unlike(PaneError):
    def __init__(self, one, other):
        self.one = one
        self.other = other


class TooLong(PaneError):
    def __init__(self, found):
        self.found = found


class NoChanges(PaneError):
    def __init__(self, found):
        self.found = found


class NoStretches(PaneError):
    def __init__(self, found):
        self.found = found


class NoPart(PaneError):
    def __init__(self, found):
        self.found = found


class NoNear(PaneError):
    def __init__(self, found):
        self.found = found


class NoTold(PaneError):
    def __init__(self, found):
        self.found = found


class NoWords(PaneError):
    def __init__(self, found):
        self.found = found
