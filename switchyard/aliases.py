"""Aliases: first words of a list that stand for other words."""

from switchyard.errors import BadAlias
from switchyard.kinds import checked_words, is_name, is_row


def expanded(aliases, words):
    """The list that is left when no unused alias stands first any more."""
    _check(aliases)
    _, rows = _followed(aliases, checked_words(words))
    left = []
    for row, at in reversed(rows):
        left.extend(row[at:])
    return left


def used_aliases(aliases, words):
    """The aliases that are used, in turn."""
    _check(aliases)
    used, _ = _followed(aliases, checked_words(words))
    return tuple(used)


def ringed(aliases):
    """The aliases that alone lead to a list that an alias begins again."""
    _check(aliases)
    return tuple([name for name in sorted(aliases) if _leads_to_an_alias(aliases, name)])


def _check(aliases):
    if not isinstance(aliases, dict):
        raise BadAlias(None)
    for name, words in aliases.items():
        if not is_name(name) or not is_row(words) or not all([isinstance(word, str) for word in words]):
            raise BadAlias(name)


def _followed(aliases, words):
    """The aliases that are used, and what is left: rows, the last one first, each from a number on."""
    used = {}
    rows = [(words, 0)]
    while len(rows) > 0:
        row, at = rows.pop()
        if at == len(row):
            continue
        word = row[at]
        if word not in aliases or word in used:
            rows.append((row, at))
            return list(used), rows
        used[word] = True
        rows.append((row, at + 1))
        rows.append((aliases[word], 0))
    return list(used), rows


def _leads_to_an_alias(aliases, name):
    _, rows = _followed(aliases, (name,))
    if len(rows) == 0:
        return False
    row, at = rows[-1]
    return row[at] in aliases
