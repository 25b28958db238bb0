"""The devices of three rows in one piece with few states."""

from rowsteps.device import Device, pairs_of
from rowsteps.errors import BadDevice, BadKind
from rowsteps.made import cosets_device, lines_device, planes_device
from rowsteps.parted import likeness, piece_of, pieces

# The tables that lead one state of the device with eight states to itself.
MAKERS_OF_EIGHT = (((0, 0, 1), (1, 0, 1), (0, 1, 0)), ((1, 0, 0), (0, 0, -1), (0, 1, 1)))
KINDS = ("one", "points", "planes", "eight")


def few_device(kind):
    """Return the device of a kind: "one", "points", "planes" or "eight"."""
    if not isinstance(kind, str) or kind not in KINDS:
        raise BadKind("not one of the four kinds")
    if kind == "one":
        return Device(3, {pair: (0,) for pair in pairs_of(3)})
    if kind == "points":
        return lines_device(3, 2)
    if kind == "planes":
        return planes_device(3, 2)
    return cosets_device(3, 2, list(MAKERS_OF_EIGHT))


def kind_of(device, models):
    """Return the kind of a device of three rows in one piece; the models are pairs of a kind and its device."""
    for kind, model in models:
        if likeness(device, model) is not None:
            return kind
    return "more"


def kinds(device):
    """Return the tuple of the kinds of the pieces of a device of three rows."""
    if device.n != 3:
        raise BadDevice("the device is not one of three rows")
    models = [(kind, few_device(kind)) for kind in KINDS]
    return tuple([kind_of(piece_of(device, piece), models) for piece in pieces(device)])
