"""Blocks as graphs, along whose edges what is asked goes backwards.

Nodes are numbers. An edge is a triple (word, what, node), kept at the node behind it, node
being the one ahead. "line": a LINE; "call": a call item. All others make no lines: "pick",
the number of a way of a "one", stands at the begin of this way; "leave", "round" and "enter"
lead from behind a "many" to the place where it is told whether one more time is gone round,
from the begin of its way to there, and from there to ahead of the "many".
"""

from anydlooks.ways import line_of_item


class Graph:
    """The graphs of all blocks of a program."""

    def __init__(self, blocks):
        self.edges = []
        self.ends = [self._new() for _ in blocks]
        self.begins = [self._way(way, end) for way, end in zip(blocks, self.ends)]

    def _new(self):
        self.edges.append([])
        return len(self.edges) - 1

    def _edge(self, word, what, behind):
        """A new node, to which an edge leads."""
        node = self._new()
        self.edges[behind].append((word, what, node))
        return node

    def _way(self, way, end):
        """The node ahead of a way, end being the one behind it."""
        node = end
        for item in reversed(way):
            if item[0] == "one":
                node = self._one(item[1], node)
            elif item[0] == "many":
                node = self._many(item[1], node)
            elif item[0] == "call":
                node = self._edge("call", item, node)
            else:
                node = self._edge("line", line_of_item(item), node)
        return node

    def _one(self, ways, end):
        begins = [self._way(way, end) for way in ways]
        node = self._new()
        for number, begin in enumerate(begins):
            self.edges[begin].append(("pick", number, node))
        return node

    def _many(self, way, end):
        turn = self._edge("leave", None, end)
        begin = self._way(way, turn)
        self.edges[begin].append(("round", None, turn))
        return self._edge("enter", None, turn)

    def behind(self):
        """For each node the list of the edges that lead to it, as triples (word, what, node behind)."""
        found = [[] for _ in self.edges]
        for node, edges in enumerate(self.edges):
            for word, what, ahead in edges:
                found[ahead].append((word, what, node))
        return found
