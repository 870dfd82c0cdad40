"""The errors of the package."""


class BurnishError(ValueError):
    """The base of all errors of the package."""


class TextError(BurnishError):
    """The text of a module has a token that cannot stand at this index."""

    def __init__(self, at):
        super().__init__(f"wrong text at {at}")
        self.at = at


class ScriptError(BurnishError):
    """A script has a token that cannot stand at this index."""

    def __init__(self, at):
        super().__init__(f"wrong script at {at}")
        self.at = at


class UnknownPass(BurnishError):
    """There is no pass of this word."""

    def __init__(self, word):
        super().__init__(f"no pass {word}")
        self.word = word


class UnknownFunction(BurnishError):
    """The module has no function of this name."""

    def __init__(self, name):
        super().__init__(f"no function {name}")
        self.name = name


class PackError(BurnishError):
    """A list of bytes has an integer that cannot stand at this index."""

    def __init__(self, at):
        super().__init__(f"wrong bytes at {at}")
        self.at = at
