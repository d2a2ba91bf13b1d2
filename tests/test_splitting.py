import itertools
import unittest

from cheaptree.nets import empty, is_net
from cheaptree.splitting import shows_trees, trees_paper
from cheaptree.trees import trees
from tests.reckoning import all_trees, full_nets, small_nets
from tests.things import all_sets, at, kind, no_words, of_no_text, paths, put, some_words

NET = (("a", "b", "c", "d"), (("s", "a", "b", 1), ("t", "b", "c", 2), ("u", "a", "c", 3), ("x", "c", "y", 0)))
WITHOUT = (empty(), (("a",), ()), (("a", "b", "c"), ()), ((), (("t", "a", "b", 1),)), (("a",), (("t", "a", "b", 1),)))
ONE = (("a", "b", "c"), (("s", "a", "b", 1), ("t", "b", "c", 2)))


def own_paper(found, ins, outs, split):
    """Of all trees found, the lesser first, the paper of a part in which just those among split are split."""
    within = [tree for tree in found if set(ins) <= set(tree) and not set(outs) & set(tree)]
    if not within:
        return None
    tree = within[0]
    if tree not in split:
        return (tree,)
    free = [name for name in tree if name not in ins]
    papers = [own_paper(found, ins + tuple(free[:k]), outs + (name,), split) for k, name in enumerate(free)]
    return (tree, tuple(papers))


def nodes(paper, path=()):
    """The paths to all papers within a paper, itself ahead."""
    told = [path]
    if paper is not None and len(paper) == 2:
        for k, each in enumerate(paper[1]):
            told += nodes(each, path + (1, k))
    return told


class TreesPaperTest(unittest.TestCase):
    def told(self, net, many):
        self.assertIs(is_net(net), True)
        as_it_was = repr(net)
        told = trees_paper(net, many)
        self.assertEqual(trees_paper(net, many), told)
        self.assertEqual(repr(net), as_it_was)
        for path in paths(told):
            self.assertIn(type(at(told, path)), (tuple, str, type(None)))
        self.assertEqual((type(told), len(told), type(told[0])), (tuple, 2, tuple))
        return told

    def test_plain_ones(self):
        first, second, third = ("s", "t"), ("s", "u"), ("t", "u")
        self.assertEqual(self.told(NET, 0), ((), (first,)))
        self.assertEqual(self.told(NET, 1), ((first,), (first, ((third,), (second,)))))
        self.assertEqual(self.told(NET, 2), ((first, second), (first, ((third,), (second, (None,))))))
        whole = ((first, second, third), (first, ((third, (None, None)), (second, (None,)))))
        for many in (3, 4, 200):
            self.assertEqual(self.told(NET, many), whole)

    def test_one_tree_alone(self):
        self.assertEqual(self.told(ONE, 0), ((), (("s", "t"),)))
        self.assertEqual(self.told(ONE, 1), ((("s", "t"),), (("s", "t"), (None, None))))
        for net in WITHOUT:
            self.assertEqual(self.told(net, 0), ((), ((),)))
            for many in (1, 2, 200):
                self.assertEqual(self.told(net, many), (((),), ((), ())))

    def test_parallel_ties_one_within_the_other(self):
        names = some_words(14)
        net = (("a", "b"), tuple([(name, "a", "b", 5) for name in names]))
        wanted = None
        for name in names[::-1]:
            wanted = ((name,), (wanted,))
        self.assertEqual(self.told(net, 14), (tuple([(name,) for name in names]), wanted))

    def test_against_trying_all(self):
        seen = set()
        for net in itertools.chain(small_nets(150), small_nets(30, 6, 10)):
            found = all_trees(net)
            for many in {0, 1, 2, 3, len(found) - 1, len(found), len(found) + 1, 10**9}:
                split = tuple(found[:many])
                self.assertEqual(trees_paper(net, many), (split, own_paper(found, (), (), split)), msg=repr(net))
            first, paper = self.told(net, len(found) // 2)
            self.assertEqual(first, trees(net, len(found) // 2))
            seen |= {type(at(paper, path)) if at(paper, path) is None else len(at(paper, path)) for path in nodes(paper)}
        self.assertEqual(seen, {type(None), 1, 2})

    def test_two_hundred_of_far_more(self):
        for net in full_nets(3):
            found = all_trees(net)
            for many in (77, 200):
                split = tuple(found[:many])
                told = self.told(net, many)
                self.assertEqual(told, (split, own_paper(found, (), (), split)))
                self.assertIs(shows_trees(net, told), True)


class ShowsTreesTest(unittest.TestCase):
    def shows(self, net, told):
        answer = shows_trees(net, told)
        self.assertIsInstance(answer, bool)
        self.assertIs(shows_trees(net, told), answer)
        return answer

    def test_what_is_told_is_shown(self):
        for net in itertools.chain([NET, ONE], WITHOUT, small_nets(100)):
            for many in range(8):
                self.assertIs(self.shows(net, trees_paper(net, many)), True, msg=f"{net} {many}")

    def test_trees_left_out_put_in_exchanged(self):
        for net in itertools.chain([NET], small_nets(40)):
            found = all_trees(net)
            for many in range(5):
                first, paper = trees_paper(net, many)
                wrong = [first[:k] + first[k + 1:] for k in range(len(first))]
                wrong += [first[:k] + (tree,) + first[k:] for k in range(len(first) + 1) for tree in found[:7]]
                wrong += [first[:k] + (first[k + 1], first[k]) + first[k + 2:] for k in range(len(first) - 1)]
                wrong += [first[:k] + (tree,) + first[k + 1:] for k in range(len(first)) for tree in found[:7]]
                wrong += [first + (("zz",),), first + (("x", "y"),), first + ("s",)]
                for tried in wrong:
                    self.assertIs(self.shows(net, (tried, paper)), tried == first, msg=f"{net} {tried} {paper}")

    def test_the_trees_of_another_count(self):
        for net in itertools.chain([NET, ONE], small_nets(40)):
            most = min(len(all_trees(net)), 6)
            for one, other in itertools.product(range(most + 1), repeat=2):
                told = (trees(net, one), trees_paper(net, other)[1])
                self.assertIs(self.shows(net, told), one == other, msg=f"{net} {told}")

    def test_all_choices_of_trees_split(self):
        tried = 0
        for net in itertools.chain([NET, ONE], small_nets(150)):
            found = all_trees(net)
            if len(found) <= 6:
                for split in all_sets(found):
                    told = (split, own_paper(found, (), (), split))
                    self.assertIs(self.shows(net, told), split == tuple(found[: len(split)]), msg=f"{net} {told}")
                    tried += 1
        self.assertGreater(tried, 500)

    def test_trees_that_are_not_told_but_lesser(self):
        net = (("a", "b", "c"), (("s", "a", "b", 1), ("t", "a", "b", 2), ("u", "b", "c", 1), ("v", "b", "c", 9)))
        found = all_trees(net)
        self.assertEqual(found, [("s", "u"), ("t", "u"), ("s", "v"), ("t", "v")])
        split = (found[0], found[2])
        self.assertIs(self.shows(net, (split, own_paper(found, (), (), split))), False)
        self.assertIs(self.shows(net, (tuple(found[:2]), own_paper(found, (), (), found[:2]))), True)

    def test_wrong_papers_of_a_part(self):
        for net in itertools.chain([NET, ONE, (("a", "b", "c"), NET[1][:1])], small_nets(25)):
            found = all_trees(net)
            others = [None] + [(tree,) for tree in found[:6]] + [(tree, ()) for tree in found[:3]]
            others += [(tree, (None,) * k) for tree in found[:3] for k in (1, 2, 3)] + [trees_paper(net, 2)[1], ()]
            for many in range(4):
                first, paper = trees_paper(net, many)
                for path in nodes(paper):
                    for other in others:
                        answer = self.shows(net, (first, put(paper, path, other)))
                        self.assertIs(answer, other == at(paper, path), msg=f"{net} {many} {path} {other}")

    def test_papers_more_fewer_or_exchanged(self):
        for net in itertools.chain([NET], small_nets(40)):
            first, paper = trees_paper(net, 4)
            for path in nodes(paper):
                node = at(paper, path)
                if node is None or len(node) == 1:
                    continue
                papers = node[1]
                wrong = [papers + (None,), (None,) + papers, papers + papers[-1:] + (None,)]
                wrong += [papers[:k] + papers[k + 1:] for k in range(len(papers))]
                wrong += [papers[:k] + (papers[k + 1], papers[k]) + papers[k + 2:] for k in range(len(papers) - 1)]
                for tried in wrong:
                    answer = self.shows(net, (first, put(paper, path + (1,), tried)))
                    self.assertIs(answer, tried == papers, msg=f"{net} {path} {tried}")
                for tried in (node + ((),), node + (None,), node[:1], (node,), node[::-1]):
                    answer = self.shows(net, (first, put(paper, path, tried)))
                    self.assertIs(answer, tried == node, msg=f"{net} {path} {tried}")

    def test_lists_and_other_things_at_each_depth(self):
        told = trees_paper(NET, 2)
        for path in paths(told):
            whole = at(told, path)
            tried = no_words() + [(told,), (told, told), "zz", NET]
            if isinstance(whole, tuple):
                tried += [list(whole), whole + ("s",), whole + (None,), whole[:-1], (whole,), whole + whole]
            for thing in tried:
                if whole is not None or thing is not None:
                    self.assertIs(self.shows(NET, put(told, path, thing)), False, msg=f"{path} {kind(thing)}")

    def test_the_empty_net(self):
        right = [((), ((),)), (((),), ((), ()))]
        for told in right:
            self.assertIs(self.shows(empty(), told), True)
        parts = [(), ((),), ((), ()), (((),),), None, ((), None), ((), (None,)), ((), ((),)), [], ([],), ((), [])]
        for told in itertools.product(parts, repeat=2):
            self.assertIs(self.shows(empty(), told), told in right, msg=repr(told))

    def test_pairs_of_things_of_every_kind(self):
        for net in (NET, empty()):
            for thing in of_no_text() + ["", "ab"]:
                self.assertIs(self.shows(net, thing), False, msg=kind(thing))
            for one, other in itertools.product(of_no_text() + ["", "ab"], repeat=2):
                self.assertIs(self.shows(net, (one, other)), False, msg=f"{kind(one)} {kind(other)}")
