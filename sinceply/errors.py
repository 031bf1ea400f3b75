"""The refusals: one class for each, all straight under PlyError."""


class PlyError(ValueError):
    pass


class NoPlaces(PlyError):
    pass


class NoTies(PlyError):
    pass


class NoLayers(PlyError):
    pass


class NoPair(PlyError):
    pass


class NoNet(PlyError):
    pass


class Unlike(PlyError):
    pass


class NoText(PlyError):
    pass


class NoPaper(PlyError):
    pass


class NoRow(PlyError):
    pass


class NoDeed(PlyError):
    pass


class Clash(PlyError):
    def __init__(self, moment):
        PlyError.__init__(self, moment)
        self.moment = moment
