"""What the text of a device tells in all."""

from rowsteps.devicetext import device_of
from rowsteps.parted import pieces
from rowsteps.remains import is_told


def answer(text):
    """Return n, the number of states, the round, the sizes of the pieces, and whether remainders tell all."""
    device = device_of(text)
    sizes = tuple([len(piece) for piece in pieces(device)])
    return (device.n, device.size, device.round, sizes, is_told(device))
