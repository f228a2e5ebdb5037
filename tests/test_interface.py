"""The interface: all names exist, each in the file under which it is listed."""

import importlib
import inspect
import unittest

FUNCTIONS = {
    "treerooms.base.rooms": (
        "lot_of(room, members)", "is_lot(room, value)", "left_lots(room, lot)", "parted(room, lot, member)",
        "turned(room, member, by)", "classes(room)", "lots(room)",
    ),
    "treerooms.base.leading": (
        "is_leading(one, other, value)", "leadings(one, other)", "renamings(one, other)", "are_one_kind(one, other)",
        "room_of_lot(room, lot)", "pairs_made(one, other, some)", "is_pairs(one, other, value)",
    ),
    "treerooms.webs.webs": ("web_fault(rooms, ties)", "fraction(web)", "least_tree(web)", "needed_ties(web)"),
    "treerooms.webs.roads": (
        "is_road(web, point, value)", "is_word(web, value)", "road_end(web, point, road)", "joined(web, point, one, other)",
        "gone_back(web, point, road)", "exchanged(web, point, road, place, member)", "pinches(web, point, road)",
        "turned_back(web, point, road, place)", "shortened(web, point, road)", "is_shortened(web, point, road, value)",
        "least_ties(web, point, road)", "exchange_row(web, point, one, other)",
    ),
    "treerooms.webs.plain": (
        "plain(web, point, road)", "is_plain(web, point, value)", "product(web, one, other)", "contrary(web, word)",
        "power(web, word, many)", "are_equal(web, one, other)", "is_nothing(web, word)", "plain_words(web, ties)",
    ),
    "treerooms.trees.tree": (
        "is_place(web, value)", "place_of(web, road)", "point_of(web, place)", "neighbours(web, place)", "way(web, one, other)",
        "distance(web, one, other)", "moved(web, word, place)", "stayers(web, place)", "still_lots(web)", "is_still(web, word)",
    ),
    "treerooms.trees.lines": (
        "kind_of(web, word)", "is_kind(web, word, value)", "order_of(web, word)", "length_of(web, word)",
        "moved_by(web, word, place)", "on_line(web, word, place)", "line(web, word, many)", "is_line(web, word, many, value)",
        "common_place(web, one, other)", "is_common_place(web, one, other, value)",
    ),
    "treerooms.trees.alike": (
        "member_classes(web)", "are_alike(web, one, other)", "between(web, one, other)", "is_between(web, one, other, value)",
        "stays_between(web, point, member, other_point, other_member)",
    ),
    "treerooms.worlds.worlds": (
        "world_fault(web, moves, pairs)", "is_full(world)", "is_free(world)", "hangs_together(world)",
        "lots_of_spots(world, point)", "walked(world, point, spot, road)", "made_full(world)", "is_made_full(world, value)",
        "nothing_paper(web, word)", "is_nothing_paper(web, word, value)",
    ),
    "treerooms.worlds.cores": (
        "core(web, words)", "stock_has(web, words, word)", "stock_index(web, words)", "is_long_stock(web, words)",
        "are_one_stock(web, one, other)", "are_alike_stocks(web, one, other)", "stock_between(web, one, other)",
        "is_stock_between(web, one, other, value)",
    ),
    "treerooms.worlds.own": (
        "own_web(web, words)", "stock_fraction(web, words)", "led_out(web, words, word)", "led_home(web, words, word)",
        "free_paper(web, words)", "is_free_paper(web, words, value)",
    ),
    "treerooms.worlds.common": (
        "common_words(web, one, other)", "is_common(web, one, other, value)", "common_index(web, one, other)",
    ),
    "treerooms.worlds.free": (
        "words_number(web)", "ends(web)", "free_rank(web, many)", "free_world(web, many)", "is_free_world(web, many, value)",
        "free_base(web, many)", "is_free_base(web, many, value)",
    ),
}
CLASSES = {
    ("treerooms.base.rooms", "Room"): (
        "round(size)", "whole(points)", "product(one, other)", "contrary(member)", "order(member)", "power(member, many)",
        "number_of(permutation)",
    ),
    ("treerooms.webs.webs", "Web"): (
        "lone(room)", "begin(tie)", "end(tie)", "lot(tie)", "carried(tie, member)", "beginnings(point)",
    ),
    ("treerooms.worlds.worlds", "World"): (),
}
# What each class has beside its methods, and what it takes.
OWN = {
    "Room": ("__len__", "__iter__", "points", "members", "size"),
    "Web": ("__len__", "rooms", "ties", "points", "size"),
    "World": ("web", "moves", "pairs", "spots"),
}
TAKEN = {"Room": ("points", "makers"), "Web": ("rooms", "ties"), "World": ("web", "moves", "pairs")}
ERRORS = (
    "TreeError", "InvalidRoom", "InvalidWeb", "InvalidRoad", "InvalidWorld", "InvalidTable", "InvalidName", "InvalidOperation",
    "ParseError", "InvalidNumber", "UnknownName", "TooMany", "Refused", "NothingToUndo",
)


def names_of(function):
    """The names of the parameters, without those for an object or a class."""
    return [name for name in inspect.signature(function).parameters if name not in ("self", "cls")]


class Interface(unittest.TestCase):
    def check(self, function, told):
        name, parameters = told[:-1].split("(")
        self.assertEqual(function.__name__, name)
        self.assertEqual(names_of(function), parameters.split(", "), told)

    def test_functions(self):
        for module, listed in FUNCTIONS.items():
            for told in listed:
                function = getattr(importlib.import_module(module), told.split("(")[0])
                self.assertEqual(function.__module__, module, told)
                self.check(function, told)

    def test_classes(self):
        for (module, name), listed in CLASSES.items():
            kind = getattr(importlib.import_module(module), name)
            self.assertEqual((kind.__module__, kind.__name__), (module, name))
            for told in listed:
                self.assertIn(told.split("(")[0], vars(kind))
                self.check(getattr(kind, told.split("(")[0]), told)
            for own in ("__eq__", "__str__", "__init__") + OWN[name]:
                self.assertIn(own, vars(kind))
            self.assertEqual(names_of(kind.__init__), list(TAKEN[name]))

    def test_errors(self):
        module = importlib.import_module("treerooms.errors")
        for name in ERRORS:
            self.assertEqual(getattr(module, name).__module__, "treerooms.errors")


if __name__ == "__main__":
    unittest.main()
