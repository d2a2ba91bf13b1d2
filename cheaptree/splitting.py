"""Papers of the next trees: a part of the trees is split, tree by tree, into further parts.

A paper of a part is None where it has no tree, (tree,) where its least tree isn't split, and (tree, papers) where it
is, with a paper for each part behind that tree.
"""

from cheaptree.nets import are_words
from cheaptree.trees import WHOLE, least_of, parts_behind, standing, trees


def paper_of(net, part, split):
    """The paper of the part in which just those of its trees are split that are among split."""
    tree = least_of(net, part)
    if tree is None:
        return None
    if tree not in split:
        return (tree,)
    return (tree, tuple([paper_of(net, each, split) for each in parts_behind(tree, part)]))


def trees_paper(net, many):
    """The pair of the first many trees, and a paper of all trees in which just these are split."""
    first = trees(net, many)
    return (first, paper_of(net, WHOLE, first))


def is_paper(net, part, thing):
    """Whether thing, which may be anything, is a paper of the part."""
    tree = least_of(net, part)
    if tree is None:
        return thing is None
    if not isinstance(thing, tuple) or len(thing) not in (1, 2) or not are_words(thing[0]) or thing[0] != tree:
        return False
    return len(thing) == 1 or are_papers(net, parts_behind(tree, part), thing[1])


def are_papers(net, parts, thing):
    """Whether thing, which may be anything, is a tuple with a paper for each of the parts in their order."""
    if not isinstance(thing, tuple) or len(thing) != len(parts):
        return False
    return all([is_paper(net, part, paper) for part, paper in zip(parts, thing)])


def told_in(paper):
    """The pair of lists of the trees that are told in a paper: those that are split, those that aren't."""
    if paper is None:
        return ([], [])
    if len(paper) == 1:
        return ([], [paper[0]])
    split = [paper[0]]
    whole = []
    for each in paper[1]:
        more_split, more_whole = told_in(each)
        split += more_split
        whole += more_whole
    return (split, whole)


def shows_trees(net, told):
    """Whether told, which may be anything, is a pair of trees and a paper that shows that they are the first ones."""
    if not isinstance(told, tuple) or len(told) != 2:
        return False
    first, paper = told
    if not isinstance(first, tuple) or not all([are_words(tree) for tree in first]) or not is_paper(net, WHOLE, paper):
        return False
    split, whole = told_in(paper)
    if first != tuple(sorted(split, key=lambda tree: standing(net, tree))):
        return False
    return not first or all([standing(net, tree) > standing(net, first[-1]) for tree in whole])
