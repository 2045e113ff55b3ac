"""The refusals: each has a class of its own straight under HeapError."""


class HeapError(ValueError):
    pass


class NoGround(HeapError):
    def __init__(self, row):
        self.row = row


class NoPlace(HeapError):
    def __init__(self, found):
        self.found = found


class Twice(HeapError):
    def __init__(self, found):
        self.found = found


class TooMany(HeapError):
    def __init__(self, found):
        self.found = found


class NoText(HeapError):
    def __init__(self, row):
        self.row = row


class NoHeap(HeapError):
    def __init__(self, found):
        self.found = found


class NoMove(HeapError):
    def __init__(self, found):
        self.found = found


class NotSo(HeapError):
    def __init__(self, found):
        self.found = found


class Ring(HeapError):
    def __init__(self, places):
        self.places = places


class NoWorth(HeapError):
    def __init__(self, found):
        self.found = found


class NoLine(HeapError):
    def __init__(self, found):
        self.found = found
