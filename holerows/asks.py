"""Rows with one gap or two, and the numbers that fit there."""

from holerows.cascades import check_number, lower_products, lower_sets, upper_products, upper_sets
from holerows.colours import judge_colours
from holerows.errors import BadAsk, TooMany
from holerows.firsts import MOST_COUNTS, is_counts, judge_counts
from holerows.productrows import judge_row
from holerows.rows import judge_rows
from holerows.sound import judge_sound_counts
from holerows.spheres import judge_sphere
from holerows.values import are_integers_from, is_integer_from, is_just

MOST_COLOURS = 8
MOST_GAPS = 2

# For each word the number of the items of an ask, the word among them.
ASKS = {"sets": 2, "sound": 2, "spheres": 2, "coloured": 3, "products": 2, "holes": 3}


def is_ask(thing):
    """Whether any value is an ask."""
    if not isinstance(thing, tuple) or len(thing) == 0 or not isinstance(thing[0], str):
        return False
    if thing[0] not in ASKS or len(thing) != ASKS[thing[0]]:
        return False
    rows = rows_in(thing)
    if not all([is_gap_row(row) for row in rows]) or len(rows[0]) != len(rows[-1]):
        return False
    if thing[0] == "coloured" and not is_integer_from(thing[1], 1):
        return False
    if thing[0] == "coloured" and thing[1] > MOST_COLOURS:
        return False
    if thing[0] == "products" and not is_just(rows[0][0], 1):
        return False
    return 1 <= many_gaps(thing) <= MOST_GAPS


def is_answer(ask, thing):
    """Whether any value is an answer of the ask."""
    check_ask(ask)
    return are_integers_from(thing, 0) and len(thing) == many_gaps(ask) and is_fit(ask, thing)


def answers(ask, greatest, *, most=200):
    """The ascending tuple of the answers whose numbers are at most the greatest one."""
    check_ask(ask)
    check_number(greatest)
    lots = [()]
    for _ in range(many_gaps(ask)):
        lots = [lot + (number,) for lot in lots for number in range(greatest + 1)]
    found = [lot for lot in lots if is_fit(ask, lot)]
    if len(found) > most:
        raise TooMany(most)
    return tuple(found)


def sum_number(ask):
    """The one number that can be the answer of an ask "holes" with one gap."""
    if not is_ask(ask) or ask[0] != "holes" or many_gaps(ask) > 1:
        raise BadAsk(ask)
    # The first rest is the sum of the counts less the holes with signs by turns, and has to be 1.
    total = alternating_sum(filled(ask, (0,)))
    step = alternating_sum(filled(ask, (1,))) - total
    return (1 - total) * step


def ends_of(ask):
    """The least and the greatest answer of an ask "sets" or "products" with one gap, None if there is none."""
    if not is_ask(ask) or ask[0] not in ("sets", "products") or many_gaps(ask) > 1:
        raise BadAsk(ask)
    row = ask[1]
    place = row.index(None)
    if ask[0] == "sets":
        least, greatest = ends_of_sets(row, place)
    else:
        least, greatest = ends_of_products(row, place)
    # Of the numbers from it on the least one asks least of the item ahead, so it is an answer if any one is.
    if not is_fit(ask, (least,)):
        return None
    return least, greatest


def check_ask(ask):
    """Raises an error for any value that is no ask."""
    if not is_ask(ask):
        raise BadAsk(ask)


def is_gap_row(thing):
    """Whether any value is a tuple of 1 to 16 integers from 0 on and gaps."""
    if not isinstance(thing, tuple) or not 1 <= len(thing) <= MOST_COUNTS:
        return False
    return all([item is None or is_integer_from(item, 0) for item in thing])


def rows_in(ask):
    """The rows of an ask."""
    # Between the word "coloured" and its row stands the number of colours.
    if ask[0] == "coloured":
        return ask[2:]
    return ask[1:]


def many_gaps(ask):
    """The number of gaps in all rows of an ask."""
    return len([item for row in rows_in(ask) for item in row if item is None])


def filled(ask, numbers):
    """The list of the rows of an ask with the numbers in its gaps."""
    rows = []
    used = 0
    for row in rows_in(ask):
        items = []
        for item in row:
            if item is None:
                items.append(numbers[used])
                used = used + 1
            else:
                items.append(item)
        rows.append(tuple(items))
    return rows


def is_fit(ask, numbers):
    """Whether an ask with these numbers from 0 on in its gaps is counts, or a row, that fit."""
    rows = filled(ask, numbers)
    if ask[0] == "products":
        return judge_row(rows[0])[0] == "fits"
    return is_counts(rows[0]) and certificate_for(ask, rows)[0] == "fits"


def certificate_for(ask, rows):
    """A certificate for the rows of an ask about counts."""
    word = ask[0]
    if word == "sets":
        return judge_counts(rows[0])
    if word == "sound":
        return judge_sound_counts(rows[0])
    if word == "spheres":
        return judge_sphere(rows[0])
    if word == "coloured":
        return judge_colours(rows[0], ask[1])
    return judge_rows(rows[0], rows[1])


def alternating_sum(rows):
    """The sum of the counts less the holes, the first one up, the next one down, and so on."""
    steps = [many - gone for many, gone in zip(rows[0], rows[1])]
    return sum(steps[::2]) - sum(steps[1::2])


def ends_of_sets(row, place):
    """The least and the greatest number that the counts beside a place let stand there."""
    least = 1
    greatest = None
    if place + 1 < len(row):
        least = lower_sets(row[place + 1], place + 2)
    if place > 0:
        greatest = upper_sets(row[place - 1], place)
    return least, greatest


def ends_of_products(row, place):
    """The least and the greatest number that the items beside a place from 1 on let stand there."""
    least = 0
    greatest = None
    if place + 1 < len(row):
        least = lower_products(row[place + 1], place + 1)
    if place > 1:
        greatest = upper_products(row[place - 1], place - 1)
    return least, greatest
