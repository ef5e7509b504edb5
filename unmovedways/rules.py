"""Rules: desks that are told as a table of contents."""

from unmovedways.errors import InvalidRule
from unmovedways.events import NO_CHANNEL
from unmovedways.need import lots
from unmovedways.states import FREE, WIDE, WIDE_CONTENT, is_content


class Rule:
    """For each cell an order of contents, the most preferred first."""

    def __init__(self, orders):
        self.orders = tuple([tuple(order) for order in orders])
        for cell, order in enumerate(self.orders):
            if not _is_order(order, cell, len(self.orders)):
                raise InvalidRule(cell)

    def __call__(self, state, where):
        order = (FREE,) if where == WIDE else self.orders[where]
        for content in order:
            if content in state:
                return state.index(content)
        return NO_CHANNEL

    def is_full(self):
        """Tells whether each order has all contents without its cell."""
        # The contents of an order are valid and different, so their number decides.
        many = 1 << (len(self.orders) - 1)
        return all([len(order) == many for order in self.orders])


def _is_order(order, cell, cells):
    for at, content in enumerate(order):
        if content == WIDE_CONTENT or not is_content(content, cells):
            return False
        if cell in content or content in order[:at]:
            return False
    return True


def pack_rule(cells):
    """Returns the full rule that takes a free channel last."""
    return Rule([[*_used_contents(cells, cell), FREE] for cell in range(cells)])


def spread_rule(cells):
    """Returns the full rule that takes a free channel first."""
    return Rule([[FREE, *_used_contents(cells, cell)] for cell in range(cells)])


def _used_contents(cells, cell):
    """Returns the contents of bearing channels without the cell, in ascending order."""
    return [content for content in lots(cells) if cell not in content]
