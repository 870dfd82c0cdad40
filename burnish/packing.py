"""Packing: plain values, certificates among them, as lists of bytes."""

from burnish.check import check
from burnish.errors import PackError

# Tuples are nested so deep at most.
_DEEPEST = 60

_PERCENT = 37

# The characters from the blank to the tilde; in the place of the percent sign, which never stands, is a blank.
_SIGNS = " !\"#$ &'()*+,-./0123456789:;<=>?@ABCDEFGHIJKLMNOPQRSTUVWXYZ[" + "\\" + "]^_`abcdefghijklmnopqrstuvwxyz{|}~"


def _is_sign(code):
    """Tell whether a character of this code may stand in a string."""
    return code == 10 or 32 <= code <= 126 and code != _PERCENT


def _size(number):
    """Return the bytes of a number that is not negative, in base 128, the lowest digit first."""
    found = []
    while number > 127:
        found.append(128 + (number & 127))
        number >>= 7
    found.append(number)
    return found


def _leaf(value):
    """Return the bytes of a plain value that is no tuple."""
    if value is None:
        return [0]
    if isinstance(value, bool):
        return [2] if value else [1]
    if isinstance(value, int):
        return [3] + _size(value) if value >= 0 else [4] + _size(-1 - value)
    if not isinstance(value, str):
        raise PackError(-1)
    codes = [ord(sign) for sign in value]
    if not all([_is_sign(code) for code in codes]):
        raise PackError(-1)
    return [5] + _size(len(codes)) + codes


def pack(value):
    """Return the list of the bytes of a plain value."""
    found = []
    # What is left to write, the next one last, each with the number of the tuples around it.
    waiting = [(value, 0)]
    while waiting:
        item, depth = waiting.pop()
        if not isinstance(item, tuple):
            found.extend(_leaf(item))
            continue
        if depth == _DEEPEST:
            raise PackError(-1)
        found.append(6)
        found.extend(_size(len(item)))
        waiting.extend([(part, depth + 1) for part in reversed(item)])
    return found


class Reader:
    """Reads a list of bytes from the beginning on."""

    def __init__(self, data):
        self.data = data
        self.at = 0

    def take_byte(self):
        """Return the next integer, which is from 0 to 255."""
        if self.at == len(self.data) or not 0 <= self.data[self.at] <= 255:
            raise PackError(self.at)
        self.at += 1
        return self.data[self.at - 1]

    def take_number(self):
        """Return the number that follows."""
        found = 0
        shift = 0
        digit = self.take_byte()
        while digit > 127:
            found |= (digit & 127) << shift
            shift += 7
            digit = self.take_byte()
        if digit == 0 and shift > 0:
            raise PackError(self.at - 1)
        return found | digit << shift

    def take_text(self):
        """Return the string that follows, its length first."""
        signs = []
        left = self.take_number()
        while left > 0:
            code = self.take_byte()
            if not _is_sign(code):
                raise PackError(self.at - 1)
            signs.append(_SIGNS[code - 32] if code != 10 else "\n")
            left -= 1
        return "".join(signs)

    def take_leaf(self, code):
        """Return the value of a code that is not that of a tuple."""
        if code < 3:
            return (None, False, True)[code]
        if code == 3:
            return self.take_number()
        if code == 4:
            return -1 - self.take_number()
        if code == 5:
            return self.take_text()
        raise PackError(self.at - 1)

    def take_value(self):
        """Return the value that follows."""
        # The tuples that are not complete: how many items each one lacks, and those that it has.
        opened = []
        while True:
            code = self.take_byte()
            if code == 6:
                if len(opened) == _DEEPEST:
                    raise PackError(self.at - 1)
                opened.append((self.take_number(), []))
            else:
                told = self.take_leaf(code)
                if not opened:
                    return told
                opened[-1][1].append(told)
            # A tuple that is complete is an item of the one around it.
            while len(opened[-1][1]) == opened[-1][0]:
                told = tuple(opened.pop()[1])
                if not opened:
                    return told
                opened[-1][1].append(told)


def unpack(data):
    """Return the plain value of a list of bytes."""
    reader = Reader(data)
    value = reader.take_value()
    if reader.at < len(data):
        raise PackError(reader.at)
    return value


def check_bytes(module, data):
    """Return what `check` returns for the certificate of a list of bytes."""
    return check(module, unpack(data))
