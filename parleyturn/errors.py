"""The refusals: one class for each, none below another, all below TalkError."""


# Whoever takes any refusal takes this one.
class TalkError(ValueError):
    pass


class NoPart(TalkError):
    pass


class NoMove(TalkError):
    pass


class NoStand(TalkError):
    pass


class NoOffer(TalkError):
    pass


class NotYet(TalkError):
    pass


class NoEnd(TalkError):
    pass
