"""Trees made ready to be looked at often."""

from onceread.trees import free_from_parts, own_variables, parts_of


class Node:
    """A tree with a number of its own, its parts as nodes, and the variables it depends on."""

    def __init__(self, tree, parts, number):
        self.word = tree[0]
        self.tree = tree
        self.parts = parts
        self.number = number
        self.names = own_variables(tree)
        self.needs = free_from_parts(tree, [part.needs for part in parts])
        # For a walk, what its step depends on besides the variables of left and right.
        self.around = ()
        if self.word == "walk":
            bound = tree[1] + tree[2]
            self.around = tuple([name for name in parts[0].needs if name not in bound])


def node_of(tree, nodes):
    """The node of a tree. It and the nodes below it are put into the list of nodes."""
    parts = [node_of(part, nodes) for part in parts_of(tree)]
    node = Node(tree, parts, len(nodes))
    nodes.append(node)
    return node


def things_for(names, things):
    """The row of the things for these variables, or None if one of them has none."""
    for name in names:
        if name not in things:
            return None
    return tuple([things[name] for name in names])


def bound_to(names, row, things):
    """The things for variables, where these names stand for the things of the row instead."""
    told = dict(things)
    for name, thing in zip(names, row):
        told[name] = thing
    return told


class Walking:
    """A walk with things for the variables around it."""

    def __init__(self, node, things):
        self.node = node
        self.step = node.parts[0]
        self.width = len(node.tree[1])
        self.start = things_for(node.tree[4], things)
        self.goal = things_for(node.tree[5], things)
        self.outside = things_for(node.around, things)

    def between(self, here, after):
        """The things for the variables of the step, from the tuple here to the tuple after."""
        tree = self.node.tree
        return dict(zip(self.node.around + tree[1] + tree[2], self.outside + here + after))
