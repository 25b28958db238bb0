"""The texts of devices, written and read."""

from rowsteps.device import Device, pairs_of
from rowsteps.errors import BadDevice, BadText

DIGITS = "0123456789"
# No number of a text is above 200, and a very long one is not worth reading.
MOST_DIGITS = 3


def text_of(device):
    """Return the text of a device."""
    lines = [f"device {device.n} {device.size}\n"]
    for i, j in pairs_of(device.n):
        numbers = (i, j) + device.move(i, j)
        lines.append(" ".join([str(number) for number in numbers]) + "\n")
    return "".join(lines)


def number_of(word):
    """Return the number that a word of a text writes, perhaps with zeros in front of it."""
    if not 1 <= len(word) <= MOST_DIGITS or not all([letter in DIGITS for letter in word]):
        raise BadText("not a number as a text has it")
    return int(word)


def read(text):
    """Return n and the dict of the exchanges that a text tells in some way."""
    lines = text.split("\n")
    words = lines[0].split(" ")
    if len(words) < 2:
        raise BadText("the number of rows is missing")
    moves = {}
    # What stands behind the last newline is no line.
    for line in lines[1:-1]:
        numbers = [number_of(word) for word in line.split(" ")]
        moves[tuple(numbers[:2])] = tuple(numbers[2:])
    return number_of(words[1]), moves


def device_of(text):
    """Return the device whose text it is."""
    if not isinstance(text, str):
        raise BadText("not a string")
    n, moves = read(text)
    try:
        device = Device(n, moves)
    except BadDevice:
        raise BadText("what the text tells is not a device") from None
    # Each device has one text, so whatever else is wrong with this one shows here.
    if text_of(device) != text:
        raise BadText("not written as the text of a device")
    return device
