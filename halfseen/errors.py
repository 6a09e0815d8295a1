"""The refusals: all stand under SeenError, none of the others under another."""


class SeenError(ValueError):
    pass


class BadWorks(SeenError):
    pass


class BadLooks(SeenError):
    pass


class BadCrowd(SeenError):
    pass


class BadDeed(SeenError):
    pass


class BadPlan(SeenError):
    def __init__(self, at):
        SeenError.__init__(self, f"no plan of these works, behind what was seen: {at!r}")
        self.at = at


class BadRun(SeenError):
    pass


class BadPrices(SeenError):
    pass


class BadNumber(SeenError):
    pass
