"""What deeds make of the words of a desk."""

from treerooms.desk.sayings import first_unknown
from treerooms.errors import Refused, UnknownName
from treerooms.trees.papers import led_word
from treerooms.webs.plain import contrary, plain, power, product

# The first names of these deeds can stand for nothing.
NEW_NAMES = ("put", "same", "times")


def names_needed(deed):
    """The names of a deed that must stand for a word, in its sequence."""
    first = 2 if deed[0] in NEW_NAMES else 1
    return [part for part in deed[first:] if isinstance(part, str)]


def word_made(web, words, deed):
    """The plain word for which the first name of a deed, other than of `take`, stands behind it."""
    head, last = deed[0], deed[-1]
    if head == "put":
        return plain(web, 0, last)
    if head == "same":
        return words[last]
    if head == "times":
        return product(web, words[deed[2]], words[last])
    if head == "back":
        return contrary(web, words[last])
    if head == "raised":
        return power(web, words[deed[1]], last)
    return led_word(web, words[last], words[deed[1]])


def words_behind(web, words, deeds, most):
    """The words behind all deeds in turn; words with more than `most` ties are refused."""
    found = dict(words)
    for index, deed in enumerate(deeds):
        unknown = first_unknown(found, names_needed(deed))
        if unknown is not None:
            raise UnknownName(unknown)
        if deed[0] == "take":
            del found[deed[1]]
        else:
            form = word_made(web, found, deed)
            if len(form) // 2 > most:
                raise Refused(("long", index))
            found[deed[1]] = form
    return found
