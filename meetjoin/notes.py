"""Orders written as texts, and read from them."""

from meetjoin.errors import NoText, OrderError
from meetjoin.order import MOST_THINGS, Order


def pair_text(a, b):
    return f"{a}<{b}"


def shown(order):
    many = order.many()
    return " ".join([f"{many}:"] + [pair_text(a, b) for a, b in order.right_below()])


# Compared with what would be written, not counted up from figures: so a needless nought, a sign
# or a run of figures too long for Python's own reading is no number at all.
def read_number(word):
    for number in range(MOST_THINGS + 1):
        if word == str(number):
            return number
    raise NoText("there is no number of an order where one has to stand")


def read_many(word):
    if not word.endswith(":"):
        raise NoText("there is no colon behind the number of things")
    return read_number(word[:-1])


def read_pair(word):
    parts = word.split("<")
    if len(parts) != 2:
        raise NoText("there is no pair where one has to stand")
    return (read_number(parts[0]), read_number(parts[1]))


def told_order(many, pairs):
    try:
        return Order(many, pairs)
    except OrderError:
        raise NoText("the text tells no order") from None


# An order may be told by other pairs too, but is written in one way alone.
def read(text):
    words = text.split(" ")
    many = read_many(words[0])
    order = told_order(many, [read_pair(word) for word in words[1:]])
    if shown(order) != text:
        raise NoText("the order is written otherwise")
    return order
