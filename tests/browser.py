"""A second, slow model of pages and events, written without the program's parts.

Elements are nodes with children; an event walks its path from the target up
to the root, and is stopped, if it is, by its target behind the target's own ears.
"""


class Node:
    def __init__(self, number):
        self.number = number
        self.parent = None
        self.children = []

    def path(self):
        node, path = self, []
        while node is not None:
            path.append(node)
            node = node.parent
        return path


class Browser:
    def __init__(self, place, kinds, sights):
        self.place, self.kinds, self.sights = place, kinds, sights
        self.nodes = []
        self.root = self.make(None)
        self.zone = self.make(self.root)
        self.target = None
        self.entered = None

    def make(self, parent):
        node = Node(len(self.nodes))
        self.nodes.append(node)
        if parent is not None:
            self.attach(node, parent)
        return node

    def attach(self, node, parent):
        node.parent = parent
        parent.children.append(node)

    def detach(self, node):
        node.parent.children.remove(node)
        node.parent = None

    def side(self, node):
        path = node.path()
        if self.root not in path:
            return "gone"
        if node is self.zone:
            return "zone"
        return "inside" if self.zone in path else "outside"

    def current(self):
        if self.target is None or self.side(self.target) == "gone":
            return None
        return self.target

    def hovered(self):
        return self.current() is not None and self.side(self.current()) in ("inside", "zone")

    def step(self, step):
        """The signals of a tick, None for a change."""
        name, *rest = step
        if name == "add":
            self.make(self.nodes[rest[0]])
        elif name == "remove":
            self.detach(self.nodes[rest[0]])
        elif name == "place":
            self.detach(self.nodes[rest[0]])
            self.attach(self.nodes[rest[0]], self.nodes[rest[1]])
        else:
            return self.tick(name, rest[:-1], rest[-1])
        return None

    def tick(self, name, rest, stops):
        sides = [self.side(node) for node in self.nodes]
        here = self.current()
        there = self.nodes[rest[0]] if name in ("point", "slip") else None
        signals = []
        flags = [bool(stops & 1), bool(stops & 2), bool(stops & 4)]

        def dispatch(kind, target, related=None):
            signals.extend(self.dispatched(kind, target, related, flags.pop(0), sides))

        if there is not None:
            if there is not here:
                dispatch("enter", there, here)
            if name == "slip":
                self.detach(here)
            elif here is not None and there is not here:
                dispatch("leave", here, there)
            dispatch("over", there)
        else:
            if here is not None:
                dispatch("drop" if name == "drop" else "leave", here)
            if name != "out" and rest[0]:
                dispatch("end", self.root)
        self.target = there
        return signals

    def ears(self, target, stopped, kind):
        """The places that an event comes by."""
        path = [target] if stopped and kind != "end" else target.path()
        found = ["capture"]
        if self.zone in path:
            found.append("zone")
        if self.root in path:
            found.append("root")
        return found

    def dispatched(self, kind, target, related, stopped, sides):
        if kind not in self.kinds or self.place not in self.ears(target, stopped, kind):
            return []
        if kind == "end":
            return [("end", "outside", False, "none")]
        side = sides[target.number]
        if side == "zone" and "own" not in self.sights:
            side = "inside"
        same = "same" in self.sights and self.entered is target
        near = "none"
        if "related" in self.sights and related is not None:
            near = "outside" if sides[related.number] == "outside" else "inside"
        if kind == "enter":
            self.entered = target
        return [(kind, side, same, near)]
