"""The bounds: how much room the stretches of moments have."""

from turnstile.errors import NoBound
from turnstile.limits import is_within
from turnstile.meters import JarMeter, WindowMeter

LARGEST_SIZE = 10 ** 15
LARGEST_FLOW = 10 ** 9
LARGEST_MOST = 10 ** 15
LARGEST_SPAN = 10 ** 12


class Bound:
    """What each bound can be asked; Jar and Window answer."""

    def room(self, first, last):
        """How much the costs from first to last may be together; None where nothing bounds them."""
        raise NotImplementedError("a Jar or a Window tells its room")

    def meter(self):
        """A new meter of this bound, by which nobody came yet."""
        raise NotImplementedError("a Jar or a Window has a meter")


class Jar(Bound):
    """A bound whose room is size, and flow more for each moment that a stretch goes on."""

    def __init__(self, size, flow):
        if not is_within(size, 1, LARGEST_SIZE):
            raise NoBound(f"a size is a number from 1 to {LARGEST_SIZE}")
        if not is_within(flow, 0, LARGEST_FLOW):
            raise NoBound(f"a flow is a number from 0 to {LARGEST_FLOW}")
        self._size = size
        self._flow = flow

    @property
    def size(self):
        """The room of a stretch of no length."""
        return self._size

    @property
    def flow(self):
        """How much room each further moment adds."""
        return self._flow

    def room(self, first, last):
        """How much the costs from first to last may be together."""
        return self._size + self._flow * (last - first)

    def meter(self):
        """A new meter of this jar, by which nobody came yet."""
        return JarMeter(self._size, self._flow)


class Window(Bound):
    """A bound whose room is most in the stretches shorter than span; longer ones it leaves free."""

    def __init__(self, most, span):
        if not is_within(most, 1, LARGEST_MOST):
            raise NoBound(f"most is a number from 1 to {LARGEST_MOST}")
        if not is_within(span, 1, LARGEST_SPAN):
            raise NoBound(f"a span is a number from 1 to {LARGEST_SPAN}")
        self._most = most
        self._span = span

    @property
    def most(self):
        """The room of each stretch that is shorter than span."""
        return self._most

    @property
    def span(self):
        """The least length at which a stretch is free."""
        return self._span

    def room(self, first, last):
        """How much the costs from first to last may be together; None where nothing bounds them."""
        if last - first < self._span:
            return self._most
        return None

    def meter(self):
        """A new meter of this window, by which nobody came yet."""
        return WindowMeter(self._most, self._span)
