"""The interface: all names exist, each in the file under which it is listed."""

import importlib
import inspect
import unittest

FUNCTIONS = {
    "treerooms.base.rooms": (
        "lot_of(room, members)", "is_lot(room, value)", "left_lots(room, lot)", "parted(room, lot, member)",
        "turned(room, member, by)", "classes(room)", "lots(room)",
    ),
    "treerooms.base.leading": (
        "is_leading(one, other, value)", "leadings(one, other)", "renamings(one, other)", "are_one_kind(one, other)",
        "room_of_lot(room, lot)", "pairs_made(one, other, some)", "is_pairs(one, other, value)",
    ),
    "treerooms.webs.webs": ("web_fault(rooms, ties)", "fraction(web)", "least_tree(web)", "needed_ties(web)"),
    "treerooms.webs.roads": (
        "is_road(web, point, value)", "is_word(web, value)", "road_end(web, point, road)", "joined(web, point, one, other)",
        "gone_back(web, point, road)", "exchanged(web, point, road, place, member)", "pinches(web, point, road)",
        "turned_back(web, point, road, place)", "shortened(web, point, road)", "is_shortened(web, point, road, value)",
        "least_ties(web, point, road)", "exchange_row(web, point, one, other)",
    ),
    "treerooms.webs.plain": (
        "plain(web, point, road)", "is_plain(web, point, value)", "product(web, one, other)", "contrary(web, word)",
        "power(web, word, many)", "are_equal(web, one, other)", "is_nothing(web, word)", "plain_words(web, ties)",
    ),
    "treerooms.trees.tree": (
        "is_place(web, value)", "place_of(web, road)", "point_of(web, place)", "neighbours(web, place)", "way(web, one, other)",
        "distance(web, one, other)", "moved(web, word, place)", "stayers(web, place)", "still_lots(web)", "is_still(web, word)",
    ),
    "treerooms.trees.lines": (
        "kind_of(web, word)", "is_kind(web, word, value)", "order_of(web, word)", "length_of(web, word)",
        "moved_by(web, word, place)", "on_line(web, word, place)", "line(web, word, many)", "is_line(web, word, many, value)",
        "common_place(web, one, other)", "is_common_place(web, one, other, value)",
    ),
    "treerooms.trees.alike": (
        "member_classes(web)", "are_alike(web, one, other)", "between(web, one, other)", "is_between(web, one, other, value)",
        "stays_between(web, point, member, other_point, other_member)",
    ),
    "treerooms.worlds.worlds": (
        "world_fault(web, moves, pairs)", "is_full(world)", "is_free(world)", "hangs_together(world)",
        "lots_of_spots(world, point)", "walked(world, point, spot, road)", "made_full(world)", "is_made_full(world, value)",
        "nothing_paper(web, word)", "is_nothing_paper(web, word, value)",
    ),
    "treerooms.worlds.cores": (
        "core(web, words)", "stock_has(web, words, word)", "stock_index(web, words)", "is_long_stock(web, words)",
        "are_one_stock(web, one, other)", "are_alike_stocks(web, one, other)", "stock_between(web, one, other)",
        "is_stock_between(web, one, other, value)",
    ),
    "treerooms.worlds.own": (
        "own_web(web, words)", "stock_fraction(web, words)", "led_out(web, words, word)", "led_home(web, words, word)",
        "free_paper(web, words)", "is_free_paper(web, words, value)",
    ),
    "treerooms.worlds.common": (
        "common_words(web, one, other)", "is_common(web, one, other, value)", "common_index(web, one, other)",
    ),
    "treerooms.worlds.free": (
        "words_number(web)", "ends(web)", "free_rank(web, many)", "free_world(web, many)", "is_free_world(web, many, value)",
        "free_base(web, many)", "is_free_base(web, many, value)",
    ),
    "treerooms.kin.changes": (
        "drawn_together(web, tie)", "put_in(web, point, lot)", "halved(web, tie)", "begun_at(web, point)", "all_needed(web)",
    ),
    "treerooms.kin.slides": (
        "slid(web, tie, over)", "tie_turned(web, tie, member)", "renamed(web, rooms, points, renamings, ties)",
        "kin_steps(one, other)", "is_kin_steps(one, other, value)", "are_kin(one, other)",
    ),
    "treerooms.counts.stocks": (
        "moves_number(room, many)", "worlds_number(web, many)", "stocks_number(web, many)", "free_number(web, many)",
        "all_worlds(web, many)",
    ),
    "treerooms.counts.forms": (
        "step_table(web)", "forms_number(web, ties)", "places_number(web, ties)", "far_ties(web, word, power)",
        "far_entry(web, word, power, place)",
    ),
    "treerooms.counts.sums": (
        "sum_columns(web)", "sum_divisors(web)", "sum_of(web, word)", "are_sums_equal(web, one, other)", "sum_order(web, word)",
        "renaming_led(web, names, word)",
    ),
    "treerooms.tables.fours": (
        "four_six()", "is_table(value)", "table_product(one, other)", "table_of_word(word)", "word_of_table(table)",
        "table_order(table)", "tables_between(one, other)", "is_tables_between(one, other, value)",
    ),
    "treerooms.text.texts": (
        "write_room(room)", "write_web(web)", "write_road(web, point, road)", "write_world(world)", "read_room(text)",
        "read_web(text)", "read_world(text)", "read(text)", "read_road(web, point, text)",
    ),
}
CLASSES = {
    ("treerooms.base.rooms", "Room"): (
        "round(size)", "whole(points)", "product(one, other)", "contrary(member)", "order(member)", "power(member, many)",
        "number_of(permutation)",
    ),
    ("treerooms.webs.webs", "Web"): (
        "lone(room)", "begin(tie)", "end(tie)", "lot(tie)", "carried(tie, member)", "beginnings(point)",
    ),
    ("treerooms.worlds.worlds", "World"): (),
    ("treerooms.kin.changes", "Change"): ("there(word)", "back(word)", "behind(other)"),
    ("treerooms.desk.desk", "Desk"): ("do(deeds)", "say(saying)", "unsay(saying)", "is_true(value)", "undo(steps)", "twin()"),
}
CONSTANTS = {
    "treerooms.base.rooms": {"MAX_POINTS": 6, "MAX_MAKERS": 4, "MAX_MEMBERS": 24, "MOST_POWER": 20},
    "treerooms.base.leading": {"MOST_PAIRS": 24},
    "treerooms.webs.webs": {"MAX_POINTS": 5, "MAX_TIES": 6},
    "treerooms.webs.roads": {"MAX_TIES": 60},
    "treerooms.webs.plain": {"MOST_POWER": 40, "MOST_TIES": 4, "MOST_LISTED": 2000},
    "treerooms.trees.tree": {"MOST_TIES": 60},
    "treerooms.trees.lines": {"MOST_POWER": 40, "MOST_STEPS": 100},
    "treerooms.worlds.worlds": {"MAX_SPOTS": 400},
    "treerooms.worlds.cores": {"MAX_BROUGHT": 2000},
    "treerooms.worlds.common": {"MAX_PAIRED": 2000},
    "treerooms.worlds.free": {"MOST_INDEX": 400},
    "treerooms.kin.slides": {"MAX_MEMBERS": 6, "MAX_TIES": 3},
    "treerooms.counts.stocks": {"MAX_SPOTS": 12, "MAX_FREE": 40, "MAX_SIX": 6, "MAX_KINDS": 100000, "MAX_WORLDS": 20000},
    "treerooms.counts.forms": {"MOST_TIES": 200, "MOST_POWER": 10 ** 30},
    "treerooms.counts.sums": {"MOST_WORDS": 60},
    "treerooms.tables.fours": {"MAX_ENTRY": 60, "MOST_TIES": 130},
    "treerooms.desk.desk": {"MAX_NAME": 8, "MAX_SAID": 20, "MOST_KEPT": 24, "MOST_POWER": 6},
    "treerooms.text.texts": {"MAX_TEXT": 20000},
}
# What each class has beside its methods, and what it takes.
OWN = {
    "Room": ("__len__", "__iter__", "points", "members", "size"),
    "Web": ("__len__", "rooms", "ties", "points", "size"),
    "World": ("web", "moves", "pairs", "spots"),
    "Change": ("start", "web"),
    "Desk": ("web", "kept", "sayings", "past", "__contains__", "__getitem__", "__len__", "__iter__"),
}
TAKEN = {"Room": ("points", "makers"), "Web": ("rooms", "ties"), "World": ("web", "moves", "pairs"), "Desk": ("web",)}
ERRORS = (
    "TreeError", "InvalidRoom", "InvalidWeb", "InvalidRoad", "InvalidWorld", "InvalidTable", "InvalidName", "InvalidOperation",
    "ParseError", "InvalidNumber", "UnknownName", "TooMany", "Refused", "NothingToUndo",
)


def names_of(function):
    """The names of the parameters, without those for an object or a class."""
    return [name for name in inspect.signature(function).parameters if name not in ("self", "cls")]


class Interface(unittest.TestCase):
    def check(self, function, told):
        name, parameters = told[:-1].split("(")
        self.assertEqual(function.__name__, name)
        self.assertEqual(names_of(function), parameters.split(", ") if parameters else [], told)

    def test_functions(self):
        for module, listed in FUNCTIONS.items():
            for told in listed:
                function = getattr(importlib.import_module(module), told.split("(")[0])
                self.assertEqual(function.__module__, module, told)
                self.check(function, told)

    def test_classes(self):
        for (module, name), listed in CLASSES.items():
            kind = getattr(importlib.import_module(module), name)
            self.assertEqual((kind.__module__, kind.__name__), (module, name))
            for told in listed:
                self.assertIn(told.split("(")[0], vars(kind))
                self.check(getattr(kind, told.split("(")[0]), told)
            for own in ("__str__", "__init__") + OWN[name]:
                self.assertIn(own, vars(kind))
            # What calls of the class `Change` take is open, and so is when changes are equal.
            if name != "Change":
                self.assertIn("__eq__", vars(kind))
                self.assertEqual(names_of(kind.__init__), list(TAKEN[name]))

    def test_constants(self):
        for module, listed in CONSTANTS.items():
            for name, worth in listed.items():
                self.assertEqual(getattr(importlib.import_module(module), name), worth)
                self.assertIs(type(getattr(importlib.import_module(module), name)), int)

    def test_errors(self):
        module = importlib.import_module("treerooms.errors")
        for name in ERRORS:
            self.assertEqual(getattr(module, name).__module__, "treerooms.errors")


if __name__ == "__main__":
    unittest.main()
