"""The refusals: each stands straight under ThinError, so that one can be taken without the others."""


class ThinError(ValueError):
    pass


class NoWeb(ThinError):
    pass


class NoTimes(ThinError):
    pass


class NoOrder(ThinError):
    pass


class NoPlain(ThinError):
    pass


class NoShare(ThinError):
    pass


class NoLevels(ThinError):
    pass


class NoFalls(ThinError):
    pass


class NoTie(ThinError):
    pass


class NoLength(ThinError):
    pass


class NoText(ThinError):
    pass


class NoLine(ThinError):
    pass


class NoBack(ThinError):
    pass


class TooMany(ThinError):
    pass
