"""Orders as texts: a word for each item."""

from rockbeds.columns import is_name
from rockbeds.errors import ParseError

SIGNS = {"lay": "+", "cut": "~", "dike": "#"}
KINDS = {"+": "lay", "~": "cut", "#": "dike"}


def order_text(order):
    """The text of a list of items, some of which may occur more than once."""
    return " ".join([SIGNS[kind] + name for kind, name in order])


def read_item(word):
    """The item of a word, None if it is no such word."""
    sign = word[:1]
    return (KINDS[sign], word[1:]) if sign in KINDS and is_name(word[1:]) else None


def read_order(text):
    """The list of the items of this text."""
    if not isinstance(text, str):
        raise ParseError(0, 0)
    words = text.split(" ") if text != "" else []
    order = []
    for at, word in enumerate(words):
        item = read_item(word)
        if item is None or item in order:
            raise ParseError(0, at)
        order.append(item)
    return order
