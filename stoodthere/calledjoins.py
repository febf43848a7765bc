"""What comes if two pieces are called joined."""

from stoodthere.basics import is_node, need
from stoodthere.fulljoinings import FullJoining
from stoodthere.pieces import end_of
from stoodthere.treekinds import is_tree, is_trees


def classes_with(book, sentences, tree, other):
    """Returns the classes of sentences if tree and other are joined first of all."""
    need(is_trees(sentences), "sentences")
    joining = FullJoining(book, sentences)
    one = joining.number_of_piece(tree)
    need(one is not None, "tree")
    two = joining.number_of_piece(other)
    need(two is not None and joining.kind_row[one] == joining.kind_row[two], "other")
    if one != two:
        joining.unite(one, two)
    joining.make_all()
    return joining.piece_classes()


def called_tree(book, sentences, tree, node, other):
    """Returns tree with other in the place of the piece at node."""
    need(is_trees(sentences), "sentences")
    need(is_tree(tree) and tree in sentences, "tree")
    need(is_node(node, tree), "node")
    joining = FullJoining(book, sentences)
    end = end_of(tree, node)
    one = joining.number_of_piece(tree[node:end])
    two = joining.number_of_piece(other)
    need(two is not None and joining.kind_row[one] == joining.kind_row[two], "other")
    return tree[:node] + other + tree[end:]
