"""The refusals: one class for each thing that is asked for and was not handed in."""


# The four below stand side by side, so that taking one never takes another.
class ScaleError(ValueError):
    pass


class NoForm(ScaleError):
    pass


class NoNumber(ScaleError):
    pass


class NoText(ScaleError):
    pass


class NoPlace(ScaleError):
    pass
