"""The refusals."""


class SeekError(ValueError):
    pass


class NoKeys(SeekError):
    pass


class NoWeights(SeekError):
    pass


class NoTree(SeekError):
    pass


class NoKey(SeekError):
    pass


class AtRoot(SeekError):
    pass


class BadText(SeekError):
    pass
