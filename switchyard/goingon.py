"""How lists may go on behind some words and the beginning of a next one."""

from switchyard.leads import Leads, least_lead
from switchyard.machines import END, alphabet, check_measures, foreign_signs
from switchyard.nets import Net, row_of, told_words
from switchyard.tellings import as_tuple


class GoingOn:
    """The signs that may come next, each with the least list; the least list if the word ends; if all may end."""

    def __init__(self, signs, word, is_end):
        self.signs = {sign: as_tuple(signs[sign]) for sign in sorted(signs)}
        self.word = as_tuple(word)
        self.is_end = is_end

    def __eq__(self, other):
        return (
            isinstance(other, GoingOn)
            and self.signs == other.signs
            and self.word == other.word
            and self.is_end == other.is_end
        )


class Beginning:
    """A row with which lists begin, and the places of a net to which it leads."""

    def __init__(self, net, row):
        self.net = net
        self.leads = Leads(net)
        self.row = row
        self.places = [0]
        for sign in row:
            self.places = self._led(sign)

    def may_end(self):
        """Whether a list may end here."""
        return any([self.net.ends[place] for place in self.places])

    def least_list(self, sign):
        """The least list that begins with the row and this sign and has a reading; None without."""
        rest = least_lead(self.leads, self._led(sign))
        if rest is None:
            return None
        return told_words(self.net.signs, [*self.row, sign, *rest])

    def _led(self, sign):
        """The places to which a sign leads on."""
        return list({behind: True for place in self.places for behind, _ in self.net.moves(place).get(sign, ())})


def going_on(table, words, beginning):
    """The GoingOn behind some words and the beginning of a next one."""
    check_measures(table)
    further = "".join([*words, beginning])
    signs = alphabet([table], further)
    row = row_of(signs, [*words, beginning])[:-1]
    begun = Beginning(Net(table, signs, False), row)
    left_out = (END, *foreign_signs([table], further)[1:])
    found = {}
    for number, sign in enumerate(signs):
        if sign not in left_out:
            least = begun.least_list(number)
            if least is not None:
                found[sign] = least
    return GoingOn(found, begun.least_list(0), beginning == "" and begun.may_end())
