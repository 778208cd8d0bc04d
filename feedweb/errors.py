"""The refusals: one class for each, so that an asker can take just the one that is meant."""


class FeedError(ValueError):
    pass


class NoName(FeedError):
    pass


class Twice(FeedError):
    pass


class Full(FeedError):
    pass


class NoKind(FeedError):
    pass


class TooLarge(FeedError):
    pass


class NotPlain(FeedError):
    pass


class NoNote(FeedError):
    pass
