"""The refusals: each one stands straight under WaveError."""


class WaveError(ValueError):
    pass


class HasLooks(WaveError):
    pass


class UnlikeWires(WaveError):
    pass


class TooGreat(WaveError):
    pass


class NoStep(WaveError):
    pass


class OddTurn(WaveError):
    pass


class Barred(WaveError):
    pass


class NoPaper(WaveError):
    pass


class StillHidden(WaveError):
    pass


class BadRow(WaveError):
    def __init__(self, row):
        WaveError.__init__(self, f"row {row} of the text can't stand there")
        self.row = row
