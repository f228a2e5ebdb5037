"""The names that sayings tell, and which sayings are true."""

from treerooms.trees.alike import are_alike
from treerooms.trees.lines import length_of, order_of
from treerooms.trees.tree import is_still
from treerooms.worlds.cores import stock_has


def names_told(saying):
    """The names of a saying, in its sequence."""
    names = []
    for part in saying[1:]:
        if isinstance(part, str):
            names.append(part)
        elif isinstance(part, tuple):
            names.extend(list(part))
    return names


def first_unknown(words, names):
    """The first name that stands for no word, None if there is none."""
    for name in names:
        if name not in words:
            return name
    return None


def is_said_truly(web, words, saying):
    """Whether a saying about names that stand for plain words is true."""
    head, form, last = saying[0], words[saying[1]], saying[-1]
    if head == "nothing":
        return form == (0,)
    if head == "equal":
        return form == words[last]
    if head == "alike":
        return are_alike(web, form, words[last])
    if head == "order":
        return order_of(web, form) == last
    if head == "length":
        return length_of(web, form) == last
    if head == "still":
        return is_still(web, form)
    return stock_has(web, tuple([words[name] for name in last]), form)


def touched_sayings(sayings, words, others):
    """The sayings with a name that stands for another word in the others than in the words."""
    return [
        saying for saying in sayings
        if any([words[name] != others[name] for name in names_told(saying)])
    ]
