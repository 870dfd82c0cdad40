"""Scanning: the tokens of a text."""

_WORD = "abcdefghijklmnopqrstuvwxyz0123456789_"


def scan(text):
    """Return the list of the tokens (text, at) of a text."""
    tokens = []
    at = 0
    while at < len(text):
        behind = at + 1
        if text[at] in _WORD:
            while behind < len(text) and text[behind] in _WORD:
                behind += 1
        if text[at] not in " \n":
            tokens.append((text[at:behind], at))
        at = behind
    return tokens
