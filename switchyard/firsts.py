"""The first lists that have a reading."""

from switchyard.errors import BadPart
from switchyard.kinds import is_integer
from switchyard.machines import alphabet, check_measures
from switchyard.nets import Net, told_words

MOST_LISTS = 40


def first_lists(table, many):
    """The first so many lists over the table's alphabet that have a reading, shorter ones first."""
    check_measures(table)
    if not is_integer(many) or not 0 <= many <= MOST_LISTS:
        raise BadPart("many")
    net = Net(table, alphabet([table], ""), False)
    before = net.befores()
    # for each length the places from which a row of it leads to an end; none if all lists are shorter
    layers = [{place: True for place, is_end in enumerate(net.ends) if is_end}]
    rows = []
    while len(rows) < many and len(layers[-1]) > 0:
        if 0 in layers[-1]:
            rows.extend(_least_rows(net, layers, many - len(rows)))
        longer = {earlier: True for place in layers[-1] for earlier in before.get(place, [])}
        layers.append(longer)
    return tuple([told_words(net.signs, row) for row in rows])


def _least_rows(net, layers, many):
    """The first so many rows that lead to ends, of those as long as the last layer tells."""
    length = len(layers) - 1
    found = []
    left = [((), [0])]
    while len(left) > 0 and len(found) < many:
        row, places = left.pop()
        if len(row) == length:
            found.append(row)
        else:
            led = _led_on(net, places, layers[length - len(row) - 1])
            left.extend([((*row, sign), list(led[sign])) for sign in sorted(led, reverse=True)])
    return found


def _led_on(net, places, layer):
    """For each sign the places of a layer to which it leads from some places."""
    led = {}
    for place in places:
        for sign, moves in net.moves(place).items():
            for behind, _ in moves:
                if behind in layer:
                    led.setdefault(sign, {})[behind] = True
    return led
