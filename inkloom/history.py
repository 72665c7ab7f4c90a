"""A history: a tree of nodes with changes between them, to any of which one may go."""

from inkloom.changes import back, neat, sizes
from inkloom.errors import BadFit, NoNode, NoPlace
from inkloom.joining import then
from inkloom.passing import passed
from inkloom.signs import is_between, is_whole


def joined_all(changes):
    # By pairs: to join a long row one by one would go through all that is joined so far each time.
    while len(changes) > 1:
        pairs = [then(one, other) for one, other in zip(changes[0::2], changes[1::2])]
        changes = pairs + changes[2 * len(pairs):]
    return changes[0]


class History:
    def __init__(self, size):
        if not is_whole(size) or size < 0:
            raise NoPlace("a text has no such number of signs")
        self.here = 0
        self.lengths = [size]
        self.parents = [None]
        self.edges = [None]
        self.below = [[]]
        self.last_gone = [None]

    def need_node(self, node):
        if not is_between(node, 0, self.many() - 1):
            raise NoNode("there is no such node")

    def need_over(self, change):
        if sizes(change)[0] != self.lengths[self.here]:
            raise BadFit("the change is over a text of another number of signs")

    def now(self):
        return self.here

    def many(self):
        return len(self.parents)

    def parent(self, node):
        self.need_node(node)
        return self.parents[node]

    def children(self, node):
        self.need_node(node)
        return list(self.below[node])

    def size(self, node):
        self.need_node(node)
        return self.lengths[node]

    def do(self, change):
        self.need_over(change)
        node = self.many()
        self.parents.append(self.here)
        self.edges.append(list(change))
        self.lengths.append(sizes(change)[1])
        self.below.append([])
        self.last_gone.append(None)
        self.below[self.here].append(node)
        self.here = node
        return node

    def more(self, change):
        self.need_over(change)
        # The newest node has no child: a child would be newer.
        if self.here == 0 or self.here != self.many() - 1:
            return self.do(change)
        self.edges[self.here] = then(self.edges[self.here], change)
        self.lengths[self.here] = sizes(change)[1]
        return self.here

    def edge(self, node, other):
        return self.edges[other] if self.parents[other] == node else back(self.edges[node])

    def along(self, way):
        steps = list(zip(way, way[1:]))
        changes = [neat([("keep", self.lengths[self.here])])]
        change = joined_all(changes + [self.edge(node, other) for node, other in steps])
        # To note the ways up is enough: one comes back to a node only from the child to which one went down last.
        for node, other in steps:
            if self.parents[node] == other:
                self.last_gone[other] = node
        self.here = way[-1]
        return change

    def undo(self):
        if self.here == 0:
            raise NoNode("the root has no parent")
        return self.along([self.here, self.parents[self.here]])

    def redo(self):
        child = self.last_gone[self.here]
        if child is None:
            raise NoNode("this node has no child")
        return self.along([self.here, child])

    def go(self, node):
        return self.along(self.way(self.here, node))

    def upward(self, node):
        row = [node]
        while row[-1] != 0:
            row.append(self.parents[row[-1]])
        return row

    def way(self, one, other):
        self.need_node(one)
        self.need_node(other)
        ups = self.upward(one)
        downs = self.upward(other)
        while len(ups) > 1 and len(downs) > 1 and ups[-2] == downs[-2]:
            ups.pop()
            downs.pop()
        # Both rows end with the node where the ways meet: it is told once.
        return ups + list(reversed(downs[:-1]))

    def neighbours(self, node):
        above = [] if node == 0 else [self.parents[node]]
        return above + self.below[node]

    def foreign(self, change):
        self.need_over(change)
        edges = list(self.edges)
        gets = {self.here: change}
        ahead = [self.here]
        while len(ahead) > 0:
            node = ahead.pop()
            for other in self.neighbours(node):
                if other in gets:
                    continue
                pair = passed(gets[node], self.edge(node, other))
                gets[other] = pair[0]
                ahead.append(other)
                if self.parents[other] == node:
                    edges[other] = pair[1]
                else:
                    edges[node] = back(pair[1])
        self.edges = edges
        self.lengths = [sizes(gets[node])[1] for node in range(self.many())]
