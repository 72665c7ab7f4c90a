import copy
import functools
import random
import unittest

from inkloom.changes import done, need_change, sizes
from inkloom.errors import BadChange, BadFit, NoNode, NoPlace
from inkloom.history import History
from inkloom.joining import then

from samples import PlainHistory, no_changes, no_wholes, some_change, some_text, still

GREAT = 10 ** 12


class HistoryCase(unittest.TestCase):
    def assert_same(self, history, plain):
        self.assertEqual(history.now(), plain.now)
        self.assertEqual(history.many(), len(plain.texts))
        for node, text in enumerate(plain.texts):
            self.assertEqual(history.size(node), len(text))
            self.assertEqual(history.parent(node), plain.parents[node])
            self.assertEqual(history.children(node), plain.children(node))

    def assert_goes(self, history, plain, node):
        was = plain.texts[plain.now]
        told = history.go(node)
        self.assertEqual(told, plain.go(node))
        self.assertIsNone(need_change(told))
        self.assertEqual(done(was, told), plain.texts[node])
        self.assert_same(history, plain)


def all_of(history):
    nodes = range(history.many())
    rows = [(history.parent(node), history.children(node), history.size(node)) for node in nodes]
    return history.now(), history.many(), rows


class NewHistoryTest(HistoryCase):
    def test_a_new_one(self):
        for size in (0, 5, GREAT):
            history = History(size)
            self.assertEqual(all_of(history), (0, 1, [(None, [], size)]))
            self.assertEqual(history.go(0), still(size))
            self.assertEqual(history.way(0, 0), [0])
            for ask in (history.undo, history.redo):
                with self.assertRaises(NoNode):
                    ask()

    def test_what_is_no_size(self):
        for thing in [-1, -GREAT] + no_wholes():
            with self.assertRaises(NoPlace):
                History(thing)


class DoTest(HistoryCase):
    def test_do_makes_a_node_below_now(self):
        history = History(2)
        self.assertEqual(history.do([("keep", 2), ("put", "c")]), 1)
        self.assertEqual(history.do([("cut", "a"), ("keep", 2)]), 2)
        self.assertEqual(history.now(), 2)
        self.assertEqual([history.parent(node) for node in (0, 1, 2)], [None, 0, 1])
        self.assertEqual([history.size(node) for node in (0, 1, 2)], [2, 3, 2])

    def test_a_change_that_keeps_all_makes_a_node_too(self):
        history = History(2)
        self.assertEqual((history.do([("keep", 2)]), history.many()), (1, 2))
        self.assertEqual(History(0).do([]), 1)
        self.assertEqual((history.undo(), history.now()), ([("keep", 2)], 0))

    def test_undo_and_redo(self):
        history = History(2)
        change = [("keep", 1), ("put", "x"), ("cut", "b")]
        history.do(change)
        self.assertEqual(history.undo(), [("keep", 1), ("put", "b"), ("cut", "x")])
        self.assertEqual(history.now(), 0)
        self.assertEqual(history.redo(), change)
        self.assertEqual(history.now(), 1)
        with self.assertRaises(NoNode):
            history.redo()
        self.assertEqual(history.now(), 1)

    def test_redo_goes_along_the_edge_last_gone_down(self):
        history = History(0)
        history.do([("put", "a")])
        history.undo()
        history.do([("put", "b")])
        history.undo()
        self.assertEqual(history.redo(), [("put", "b")])
        history.go(1)
        history.undo()
        self.assertEqual(history.redo(), [("put", "a")])

    def test_redo_goes_along_the_edge_last_gone_up(self):
        history = History(0)
        history.do([("put", "a")])
        history.do([("keep", 1), ("put", "b")])
        history.go(0)
        history.do([("put", "c")])
        history.go(2)
        history.go(3)
        # Up from 1, then down to 3: the edge to 3 was the last one at the root.
        history.undo()
        self.assertEqual((history.redo(), history.now()), ([("put", "c")], 3))
        history.go(2)
        history.undo()
        history.undo()
        self.assertEqual((history.redo(), history.now()), ([("put", "a")], 1))
        self.assertEqual((history.redo(), history.now()), ([("keep", 1), ("put", "b")], 2))

    def test_passing_through_a_node_changes_which_edge_was_last(self):
        history = History(0)
        for text in ("a", "b", "c"):
            history.do([("put", text)])
            history.undo()
        history.go(1)
        history.go(0)
        self.assertEqual(history.redo(), [("put", "a")])
        history.go(3)
        self.assertEqual(history.way(3, 2), [3, 0, 2])
        history.go(2)
        history.go(0)
        self.assertEqual(history.redo(), [("put", "b")])


class MoreTest(HistoryCase):
    def test_more_of_the_newest(self):
        history = History(1)
        history.do([("keep", 1), ("put", "x")])
        self.assertEqual(history.more([("keep", 2), ("put", "y")]), 1)
        self.assertEqual(history.more([("cut", "a"), ("keep", 2)]), 1)
        self.assertEqual((history.many(), history.size(1)), (2, 2))
        self.assertEqual(history.undo(), [("put", "a"), ("cut", "xy")])
        self.assertEqual(history.redo(), [("put", "xy"), ("cut", "a")])

    def test_more_where_now_is_the_root(self):
        history = History(1)
        self.assertEqual((history.more([("keep", 1), ("put", "x")]), history.many()), (1, 2))
        history.undo()
        self.assertEqual((history.more([("put", "y"), ("keep", 1)]), history.parent(2)), (2, 0))

    def test_more_where_now_has_a_child(self):
        history = History(0)
        history.do([("put", "a")])
        history.do([("keep", 1), ("put", "b")])
        history.undo()
        self.assertEqual((history.more([("keep", 1), ("put", "c")]), history.parent(3)), (3, 1))
        self.assertEqual(history.children(1), [2, 3])

    def test_more_where_now_is_not_the_newest(self):
        history = History(0)
        history.do([("put", "a")])
        history.undo()
        history.do([("put", "b")])
        history.go(1)
        self.assertEqual((history.more([("keep", 1), ("put", "c")]), history.parent(3)), (3, 1))

    def test_more_behind_an_undo_and_a_redo(self):
        history = History(0)
        history.do([("put", "a")])
        history.undo()
        history.redo()
        self.assertEqual(history.more([("keep", 1), ("put", "b")]), 1)
        self.assertEqual(history.undo(), [("cut", "ab")])


class WayTest(HistoryCase):
    def tree(self):
        """0 has 1 and 4; 1 has 2 and 3; 4 has 5."""
        history = History(0)
        for node in (0, 1, 1, 0, 4):
            history.go(node)
            history.do([("put", "x")] + still(history.size(node)))
        return history

    def test_ways(self):
        history = self.tree()
        self.assertEqual([history.children(node) for node in range(6)], [[1, 4], [2, 3], [], [], [5], []])
        self.assertEqual(history.way(2, 3), [2, 1, 3])
        self.assertEqual(history.way(2, 5), [2, 1, 0, 4, 5])
        self.assertEqual(history.way(5, 0), [5, 4, 0])
        self.assertEqual(history.way(0, 3), [0, 1, 3])
        self.assertEqual(history.way(1, 1), [1])
        self.assertEqual(history.way(3, 1), [3, 1])

    def test_a_way_changes_nothing(self):
        history = self.tree()
        ahead = copy.deepcopy(all_of(history))
        told = history.children(0)
        history.way(2, 5).clear()
        history.children(0).clear()
        self.assertEqual(all_of(history), ahead)
        self.assertEqual(history.way(2, 5), [2, 1, 0, 4, 5])
        history.go(0)
        history.do([("put", "y")])
        self.assertEqual((told, history.children(0)), ([1, 4], [1, 4, 6]))

    def test_what_is_no_node(self):
        history = self.tree()
        ahead = all_of(history)
        for thing in [-1, 6, GREAT] + no_wholes():
            for ask in (history.parent, history.children, history.size, history.go):
                with self.assertRaises(NoNode):
                    ask(thing)
            for one, other in [(thing, 0), (0, thing), (thing, thing), (thing, 99)]:
                with self.assertRaises(NoNode):
                    history.way(one, other)
        self.assertEqual(all_of(history), ahead)


class RefusalsTest(HistoryCase):
    def test_what_is_no_change(self):
        history = History(1)
        history.do([("keep", 1), ("put", "b")])
        ahead = all_of(history)
        for number, thing in enumerate(no_changes()):
            for ask in (history.do, history.more, history.foreign):
                with self.assertRaises(BadChange, msg=number):
                    ask(thing)
        self.assertEqual(all_of(history), ahead)

    def test_what_does_not_fit(self):
        history = History(1)
        history.do([("keep", 1), ("put", "b")])
        ahead = all_of(history)
        for change in ([], [("keep", 1)], [("keep", 3)], [("put", "ab")], [("cut", "abc")]):
            for ask in (history.do, history.more, history.foreign):
                with self.assertRaises(BadFit, msg=change):
                    ask(change)
        for ask in (history.do, history.more, history.foreign):
            with self.assertRaises(BadChange):
                ask([("keep", 3), ("keep", 0)])
        self.assertEqual(all_of(history), ahead)
        self.assertEqual(history.undo(), [("keep", 1), ("cut", "b")])

    def test_what_does_not_fit_a_new_one(self):
        history = History(2)
        for ask in (history.do, history.more, history.foreign):
            for change in ([], [("keep", 1)], [("keep", 3)], [("put", "ab")], [("cut", "abc")]):
                with self.assertRaises(BadFit, msg=change):
                    ask(change)
            with self.assertRaises(BadChange):
                ask([("keep", 3), ("keep", 0)])
        self.assertEqual(all_of(history), (0, 1, [(None, [], 2)]))

    def test_what_can_not_pass_changes_nothing(self):
        history = History(2)
        for change in ([("keep", 2), ("put", "c")], [("cut", "a"), ("keep", 1)], [("keep", 1), ("cut", "b")]):
            history.do(change)
            history.undo()
        ahead = all_of(history)
        for change in ([("put", "x"), ("cut", "ac")], [("put", "x"), ("cut", "c"), ("keep", 1)]):
            with self.assertRaises(BadFit):
                history.foreign(change)
            self.assertEqual(all_of(history), ahead)
        told = []
        for node in (1, 2, 3):
            told.append(history.go(node))
            history.go(0)
        self.assertEqual(told, [[("keep", 2), ("put", "c")], [("cut", "a"), ("keep", 1)], [("keep", 1), ("cut", "b")]])

    def test_refused_steps_change_nothing(self):
        history = History(0)
        history.do([("put", "a")])
        ahead = all_of(history)
        with self.assertRaises(NoNode):
            history.redo()
        history.undo()
        with self.assertRaises(NoNode):
            history.undo()
        history.redo()
        self.assertEqual(all_of(history), ahead)


class ForeignTest(HistoryCase):
    def test_one_edge_below(self):
        history = History(2)
        history.do([("keep", 1), ("put", "x"), ("keep", 1)])
        history.undo()
        self.assertIsNone(history.foreign([("keep", 1), ("put", "yy"), ("cut", "b")]))
        self.assertEqual([history.size(0), history.size(1), history.now(), history.many()], [3, 4, 0, 2])
        # What comes from outside is the first one at a gap.
        self.assertEqual(history.redo(), [("keep", 3), ("put", "x")])

    def test_one_edge_above(self):
        history = History(2)
        history.do([("keep", 1), ("put", "x"), ("keep", 1)])
        history.foreign([("keep", 1), ("put", "yy"), ("cut", "xb")])
        self.assertEqual([history.size(0), history.size(1)], [3, 3])
        self.assertEqual(history.undo(), [("keep", 3)])

    def test_it_changes_no_place_in_the_tree(self):
        history = History(0)
        history.do([("put", "a")])
        history.undo()
        history.do([("put", "b")])
        history.go(1)
        history.foreign([("put", "xx"), ("cut", "a")])
        self.assertEqual(all_of(history), (1, 3, [(None, [1, 2], 2), (0, [], 2), (0, [], 3)]))
        history.undo()
        self.assertEqual(history.redo(), [("keep", 2)])

    def test_many_one_behind_the_other(self):
        chance = random.Random(11)
        for seed in range(20):
            text = some_text(chance, 6)
            history, plain = History(len(text)), PlainHistory(text)
            for number in range(6):
                plain_node = chance.randrange(len(plain.texts))
                self.assert_goes(history, plain, plain_node)
                change = some_change(chance, plain.texts[plain.now])
                history.do(change)
                plain.do(change)
            for number in range(5):
                change = some_change(chance, plain.texts[plain.now])
                self.assertIsNone(history.foreign(change))
                plain.foreign(change)
                self.assert_same(history, plain)
            for node in list(range(len(plain.texts))) * 2:
                self.assert_goes(history, plain, node)


class RowsOfDeedsTest(HistoryCase):
    def test_rows_of_deeds_beside_plain_texts(self):
        for seed in range(25):
            chance = random.Random(seed)
            text = some_text(chance, 8)
            history, plain = History(len(text)), PlainHistory(text)
            for number in range(50):
                self.one_deed(chance, history, plain)
                self.assert_same(history, plain)
            for node in range(len(plain.texts)):
                self.assert_goes(history, plain, node)

    def one_deed(self, chance, history, plain):
        text = plain.texts[plain.now]
        deed = chance.choice(["do", "do", "more", "more", "undo", "redo", "redo", "go", "foreign", "still"])
        change = some_change(chance, text, parts=3) if deed != "still" else still(len(text))
        if deed in ("do", "still"):
            plain.do(change)
            self.assertEqual(history.do(change), plain.now)
        elif deed == "more":
            plain.more(change)
            self.assertEqual(history.more(change), plain.now)
        elif deed == "foreign":
            plain.foreign(change)
            history.foreign(change)
        elif deed == "go":
            self.assert_goes(history, plain, chance.randrange(len(plain.texts)))
        else:
            node = plain.parents[plain.now] if deed == "undo" else plain.gone[plain.now]
            ask = history.undo if deed == "undo" else history.redo
            if node is None:
                with self.assertRaises(NoNode):
                    ask()
                return
            told = ask()
            self.assertEqual(told, plain.go(node))
            self.assertEqual(done(text, told), plain.texts[node])


class DeepTest(HistoryCase):
    def test_thousands_one_below_the_other(self):
        many = 5000
        history = History(0)
        for number in range(many):
            history.do([("put", "ab\n"[number % 3])] + still(number))
        text = ("ab\n" * many)[:many][::-1]
        self.assertEqual(history.go(0), [("cut", text)])
        self.assertEqual(history.go(many), [("put", text)])
        self.assertEqual(history.way(many, 0), list(range(many, -1, -1)))
        history.foreign([("put", "x"), ("keep", many), ("put", "yz")])
        self.assertEqual([history.size(node) for node in (0, 1, many)], [3, 4, many + 3])
        self.assertEqual(done("x" + text + "yz", history.go(0)), "xyz")
        for number in range(many):
            history.redo()
        self.assertEqual(history.now(), many)
        for number in range(many):
            history.undo()
        self.assertEqual(history.now(), 0)

    def test_changes_all_over_the_text(self):
        many = 3000
        history = History(2 * many)
        for number in range(many):
            history.do([("keep", 2 * number + 1), ("put", "x"), ("cut", "b")] + still(2 * (many - number - 1)))
        told = history.go(0)
        self.assertEqual(done("ax" * many, told), "ab" * many)
        self.assertEqual(told, [("keep", 1), ("put", "b"), ("cut", "x")] * many)


class OwnTest(HistoryCase):
    def test_what_is_handed_in_may_be_changed_later(self):
        for ask in ("do", "more", "foreign"):
            history = History(1)
            history.do([("keep", 1), ("put", "b")])
            change = [("keep", 2), ("put", "c")]
            kept = copy.deepcopy(change)
            getattr(history, ask)(change)
            self.assertEqual(change, kept)
            ahead = all_of(history)
            change.clear()
            self.assertEqual(all_of(history), ahead)
            history.go(0)
            self.assertEqual(sizes(history.go(history.many() - 1))[1], 3)

    def test_what_was_told_stays_and_may_be_changed(self):
        history = History(1)
        change = [("keep", 1), ("put", "b")]
        history.do(change)
        told = [history.undo(), history.redo(), history.go(0), history.go(1), history.go(1)]
        kept = copy.deepcopy(told)
        history.more([("keep", 2), ("put", "c")])
        history.foreign([("put", "x"), ("keep", 3)])
        self.assertEqual(told, kept)
        for one in told:
            one.append(("keep", 7))
        self.assertEqual(history.undo(), [("keep", 2), ("cut", "bc")])
        history.redo().clear()
        history.undo().clear()
        self.assertEqual(history.redo(), [("keep", 2), ("put", "bc")])

    def test_joined_by_pairs_is_joined_one_by_one(self):
        chance = random.Random(12)
        for many in range(1, 18):
            text = some_text(chance, 12)
            history, changes = History(len(text)), []
            for number in range(many):
                change = some_change(chance, text)
                history.do(change)
                changes.append(change)
                text = done(text, change)
            history.go(0)
            self.assertEqual(history.go(many), functools.reduce(then, changes))


if __name__ == "__main__":
    unittest.main()
