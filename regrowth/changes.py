"""Changes of a row of things: when one fits."""

from regrowth.errors import NoFit


def check_change(many_old, many_new, at, gone, come):
    """None where the change fits rows of so many things, or NoFit."""
    if at < 0 or gone < 0 or come < 0:
        raise NoFit(f"a number below 0: {at}, {gone}, {come}")
    if at + gone > many_old:
        raise NoFit(f"{gone} from {at} on go past the end of {many_old}")
    if many_old - gone + come != many_new:
        raise NoFit(f"{many_old}, with {gone} gone and {come} come, are not {many_new}")
