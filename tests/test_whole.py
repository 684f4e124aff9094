"""What the document promises over the whole program: [0.1] to [0.4], the interface, the refusals."""

import importlib
import inspect
import unittest

from sampling import FAR, WEB, great_webs, web_state
from spanrow import errors
from spanrow.desk import Desk
from spanrow.webs import Web

LENGTHS = [3, -1, 2, 0, 3, 7]
TURNS = [[0, 9, 10], [1, 2, 5], [3, 8, 4], [6, 7, 11]]
TEXT = "places 3\ntie 0 1 5\ntie 1 2 -4\ntie 2 0 5"
# For each module its functions: their arguments, and a call of each.
INTERFACE = {
    "webs": {
        "made_set": ("web ties", (WEB, [0, 2])),
        "pieces_of": ("web ties", (WEB, [0, 2])),
        "is_joined": ("web ties", (WEB, [0, 2, 5])),
        "joined_ends": ("web ties one other", (WEB, [0, 2], 0, 2)),
    },
    "trees": {
        "is_tree": ("web ties", (WEB, [0, 2, 5])),
        "least_tree": ("web", (WEB,)),
        "ring_of": ("web tree tie", (WEB, [0, 2, 5], 4)),
        "cut_of": ("web tree tie", (WEB, [0, 2, 5], 0)),
        "exchanges_of": ("web tree", (WEB, [0, 2, 5])),
        "exchanged": ("web tree out into", (WEB, [0, 2, 5], 2, 1)),
    },
    "tables": {
        "determinant": ("table", ([[0, 2], [3, 4]],)),
        "solved": ("table right", ([[0, 2], [3, 4]], [5, 6])),
    },
    "counts": {
        "pull_table": ("web", (WEB,)),
        "tree_count": ("web", (WEB,)),
        "count_with": ("web inside outside", (WEB, [0], [1])),
    },
    "making": {
        "drawn_together": ("web tie", (WEB, 0)),
        "left_without": ("web tie", (WEB, 0)),
        "needed_ties": ("web", (WEB,)),
        "idle_ties": ("web", (WEB,)),
        "put_together": ("web place other other_place", (WEB, 1, WEB, 2)),
        "count_by_parting": ("web", (WEB,)),
    },
    "plain": {
        "tree_at": ("web number", (WEB, 3)),
        "number_of": ("web tree", (WEB, [0, 2, 5])),
        "next_tree": ("web tree", (WEB, [0, 2, 5])),
        "tree_ahead": ("web tree", (WEB, [0, 2, 5])),
        "trees_from": ("web number most", (WEB, 1, 3)),
        "least_with": ("web inside outside", (WEB, [4], [0])),
        "greatest_with": ("web inside outside", (WEB, [0], [4])),
    },
    "rowing": {
        "row_last": ("web", (WEB,)),
        "row_at": ("web number", (WEB, 3)),
        "row_number": ("web tree", (WEB, [1, 4, 5])),
        "row_next": ("web tree", (WEB, [1, 4, 5])),
        "row_ahead": ("web tree", (WEB, [1, 4, 5])),
        "row_step": ("web tree", (WEB, [1, 4, 5])),
        "row_from": ("web number most", (WEB, 1, 3)),
    },
    "between": {
        "differ": ("web one other", (WEB, [0, 1, 5], [2, 4, 5])),
        "walk_between": ("web one other", (WEB, [0, 1, 5], [2, 4, 5])),
        "walked": ("web tree walk", (WEB, [0, 1, 5], [(0, 4), (1, 2)])),
        "partner_of": ("web one other tie", (WEB, [0, 1, 5], [2, 4, 5], 1)),
        "far_tree": ("web tree", (WEB, [0, 1, 5])),
    },
    "shares": {
        "share_of": ("web ties", (WEB, [0, 4])),
        "heights_of": ("web one other", (WEB, 0, 2)),
        "heights_hold": ("web one other heights", (WEB, 1, 1, [(0, 1)] * 4)),
        "lean_of": ("web tie other", (WEB, 0, 4)),
    },
    "cheapest": {
        "length_of": ("web lengths ties", (WEB, LENGTHS, [0, 4])),
        "cheapest_tree": ("web lengths", (WEB, LENGTHS)),
        "gains_of": ("web lengths tree", (WEB, LENGTHS, [2, 4, 5])),
        "is_cheapest": ("web lengths tree", (WEB, LENGTHS, [2, 4, 5])),
        "cheapest_count": ("web lengths", (WEB, LENGTHS)),
        "cheapest_at": ("web lengths number", (WEB, LENGTHS, 1)),
        "cheapest_number": ("web lengths tree", (WEB, LENGTHS, [1, 4, 5])),
    },
    "ranking": {"ranked": ("web lengths most", (WEB, LENGTHS, 4))},
    "sums": {
        "weight_of": ("web weights ties", (WEB, LENGTHS, [0, 4])),
        "tree_sum": ("web weights", (WEB, LENGTHS)),
        "sorts_of": ("web ties", (WEB, [0, 4])),
        "sorts_at": ("web place", (WEB, 2)),
        "rooted_forests": ("web", (WEB,)),
    },
    "flat": {
        "rounds_of": ("web turns", (WEB, TURNS)),
        "lies_flat": ("web turns", (WEB, TURNS)),
        "other_web": ("web turns", (WEB, TURNS)),
        "left_of": ("web tree", (WEB, [0, 2, 5])),
    },
    "texts": {
        "read_web": ("text", (TEXT,)),
        "web_text": ("web lengths", (WEB, LENGTHS)),
    },
    "report": {"report": ("web lengths", (WEB, LENGTHS))},
}
# How each refusal comes up, by the functions that are to raise it.
REFUSED = (
    ("BadWeb", "webs", "Web", (15, [])),
    ("BadWeb", "making", "put_together", (WEB, 4, WEB, 0)),
    ("BadWeb", "making", "count_by_parting", (Web(2, [(0, 1)] * 13),)),
    ("BadWeb", "flat", "other_web", (Web(1, [(0, 0)] * 14), [list(range(28))])),
    ("BadWeb", "texts", "read_web", ("places 15",)),
    ("BadSet", "webs", "made_set", (WEB, [2, 0])),
    ("BadSet", "counts", "count_with", (WEB, [], [6])),
    ("BadSet", "shares", "share_of", (WEB, [6])),
    ("BadSet", "sums", "sorts_of", (WEB, [6])),
    ("Parted", "trees", "least_tree", (Web(2, []),)),
    ("Parted", "rowing", "row_last", (Web(2, []),)),
    ("Parted", "shares", "share_of", (Web(2, []), [])),
    ("Parted", "cheapest", "cheapest_tree", (Web(2, []), [])),
    ("NoTree", "plain", "number_of", (WEB, [0, 1, 2])),
    ("NoTree", "flat", "left_of", (WEB, [0, 1, 2])),
    ("NoTree", "cheapest", "cheapest_number", (WEB, LENGTHS, [2, 4, 5])),
    ("NoTie", "making", "left_without", (WEB, 6)),
    ("NoTie", "between", "walked", (WEB, [0, 1, 5], [(0, 0)])),
    ("NoTie", "shares", "lean_of", (WEB, 0, 6)),
    ("NoSuch", "plain", "tree_at", (WEB, 5)),
    ("NoSuch", "rowing", "row_from", (WEB, -1, 0)),
    ("NoSuch", "sums", "sorts_at", (WEB, 4)),
    ("NotSquare", "tables", "determinant", ([[1, 2]],)),
    ("NotSquare", "tables", "solved", ([[0]], [])),
    ("Singular", "tables", "solved", ([[0]], [1])),
    ("BadRow", "cheapest", "length_of", (WEB, [1], [9])),
    ("BadRow", "ranking", "ranked", (WEB, [1], 0)),
    ("BadRow", "sums", "tree_sum", (WEB, [1])),
    ("BadRow", "report", "report", (WEB, [1])),
    ("BadTurns", "flat", "rounds_of", (WEB, [])),
    ("NotFlat", "flat", "other_web", (Web(1, [(0, 0)] * 2), [[0, 2, 1, 3]])),
    ("BadText", "texts", "read_web", ("places 15\n",)),
    ("BadText", "desk", "Desk", ("",)),
)
NAMES = (
    "BadWeb", "BadSet", "Parted", "NoTree", "NoTie", "NoSuch", "NotSquare", "Singular", "BadRow", "BadTurns", "NotFlat",
    "BadText", "NothingBack",
)


def brought(module, name):
    return getattr(importlib.import_module(f"spanrow.{module}"), name)


def calls():
    return [(name, brought(module, name), handed) for module, functions in INTERFACE.items()
            for name, (arguments, handed) in functions.items()]


def state(value):
    """A value in a form that can be compared, lists and tuples told apart."""
    if isinstance(value, Web):
        return ("web", state(value.places), state(value.ties))
    if isinstance(value, (list, tuple)):
        return (type(value).__name__, [state(part) for part in value])
    return (type(value).__name__, value)


def lists_in(value):
    """All lists of a value, within others too, and those of its webs."""
    if isinstance(value, Web):
        return [value.ties]
    if isinstance(value, (list, tuple)):
        return [value] * isinstance(value, list) + [found for part in value for found in lists_in(part)]
    return []


class Interface(unittest.TestCase):

    def test_functions_and_their_arguments(self):
        for module, functions in INTERFACE.items():
            for name, (arguments, handed) in functions.items():
                asked = brought(module, name)
                self.assertEqual(list(inspect.signature(asked).parameters), arguments.split(), name)
                self.assertEqual(asked.__module__, f"spanrow.{module}")

    def test_classes_and_their_methods(self):
        self.assertEqual(list(inspect.signature(Web).parameters), ["places", "ties"])
        self.assertEqual(list(inspect.signature(Desk).parameters), ["text"])
        for name, arguments in (("grow", ""), ("tie", "one other length"), ("strike", "tie"),
                                ("stretch", "tie length"), ("back", ""), ("text", ""), ("asked", "line")):
            self.assertEqual(list(inspect.signature(getattr(Desk, name)).parameters), ["self"] + arguments.split())


class OverAll(unittest.TestCase):
    """[0.2], [0.3]"""

    def test_what_is_handed_in_stays(self):
        for name, asked, handed in calls():
            before = state(handed)
            asked(*handed)
            self.assertEqual(state(handed), before, name)

    def test_the_same_asked_again_is_told_alike(self):
        for name, asked, handed in calls():
            told = asked(*handed)
            before = state(told)
            self.assertEqual(state(asked(*handed)), before, name)
            for found in lists_in(told):
                found.append("more")
            self.assertEqual(state(asked(*handed)), before, name)

    def test_what_is_told_is_the_askers_own(self):
        for name, asked, handed in calls():
            theirs = [id(found) for found in lists_in(handed)]
            told = lists_in(asked(*handed))
            self.assertEqual(len({id(found) for found in told}), len(told), name)
            self.assertFalse({id(found) for found in told} & set(theirs), name)

    def test_tuples_will_do_for_lists_and_lists_for_sets(self):
        for name, asked, handed in calls():
            as_tuples = [tuple(tuple(part) if isinstance(part, list) else part for part in value)
                         if isinstance(value, list) else value for value in handed]
            self.assertEqual(state(asked(*as_tuples)), state(asked(*handed)), name)

    def test_what_is_done_to_it_behind_the_call_changes_nothing(self):
        for name, asked, handed in calls():
            own = [[list(part) if isinstance(part, list) else part for part in value]
                   if isinstance(value, list) else value for value in handed]
            told = asked(*own)
            before = state(told)
            for value in own:
                for found in lists_in(value) if isinstance(value, list) else []:
                    found.clear()
            self.assertEqual(state(told), before, name)
            self.assertEqual(state(asked(*handed)), before, name)

    def test_whole_numbers_are_never_true_or_false(self):
        truths = ("is_joined", "joined_ends", "is_tree", "heights_hold", "is_cheapest", "lies_flat")
        for name, asked, handed in calls():
            told = asked(*handed)
            self.assertIs(type(told) is bool, name in truths, name)
            self.assertIs("'bool'" in repr(state(told)), name in truths, name)

    def test_the_parts_of_the_program_agree(self):
        """[0.1]: one web, looked at from all sides."""
        for web in great_webs(171, 2) + [WEB]:
            size = brought("counts", "tree_count")(web)
            alike = [4] * len(web.ties)
            self.assertEqual(brought("cheapest", "cheapest_count")(web, alike), size)
            self.assertEqual(brought("sums", "tree_sum")(web, [1] * len(web.ties)), size)
            self.assertEqual(sum(brought("sums", "sorts_at")(web, 0)), size)
            self.assertEqual(brought("report", "report")(web, alike)[0], f"trees {size}")
            self.assertEqual(Desk(brought("texts", "web_text")(web, alike)).asked("count"), str(size))
            tree = brought("rowing", "row_at")(web, size // 2)
            self.assertEqual(brought("plain", "tree_at")(web, brought("plain", "number_of")(web, tree)), tree)


class Refusals(unittest.TestCase):

    def test_each_by_just_its_own_class(self):
        for name, module, function, handed in REFUSED:
            with self.assertRaises(errors.WebError) as refused:
                brought(module, function)(*handed)
            self.assertIs(type(refused.exception), getattr(errors, name), (name, function))

    def test_of_the_desk(self):
        desk = Desk(TEXT)
        for name, method, handed in (
                ("NothingBack", "back", ()), ("NoTie", "strike", (3,)), ("NoTie", "stretch", (3, 1)),
                ("BadWeb", "tie", (0, 3, 1)), ("BadText", "asked", ("",)), ("NoSuch", "asked", ("tree 3",)),
                ("NoTree", "asked", ("place 0",)), ("BadSet", "asked", (f"share {FAR}",))):
            with self.assertRaises(errors.WebError) as refused:
                getattr(desk, method)(*handed)
            self.assertIs(type(refused.exception), getattr(errors, name), (name, method))

    def test_all_thirteen_come_up(self):
        self.assertEqual({name for name, module, function, handed in REFUSED} | {"NothingBack"}, set(NAMES))

    def test_a_refusal_leaves_what_is_handed_in(self):
        for name, module, function, handed in REFUSED:
            before = state(handed)
            with self.assertRaises(errors.WebError):
                brought(module, function)(*handed)
            self.assertEqual(state(handed), before)
        self.assertEqual(web_state(WEB), (4, [(0, 1), (1, 2), (2, 1), (3, 3), (2, 0), (0, 3)]))


if __name__ == "__main__":
    unittest.main()
