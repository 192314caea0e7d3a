"""Heat sent from where it is given to where it is wanted, as cheaply as it goes."""


class Flow:
    """A net of nodes, counted from 0, and of arcs with room for so much heat, at a price for each unit.

    Each arc has a twin in the other direction with the next number, whose
    room is what the arc carries: sending heat over the twin takes it back.
    Two nodes more are the source of all that is given and the sink of all
    that is wanted; `lacking` is how much of this does not get there.
    """

    def __init__(self, many):
        self.source = many
        self.sink = many + 1
        self.leaving = [[] for _ in range(many + 2)]
        self.heads = []
        self.rooms = []
        self.prices = []
        self.lacking = 0

    def link(self, tail, head, room, price):
        """Add an arc and return its number."""
        arc = len(self.heads)
        self.leaving[tail].append(arc)
        self.leaving[head].append(arc + 1)
        self.heads += [head, tail]
        self.rooms += [room, 0]
        self.prices += [price, -price]
        return arc

    def give(self, node, heat):
        self.link(self.source, node, heat, 0)

    def want(self, node, heat):
        self.link(node, self.sink, heat, 0)
        self.lacking += heat

    def carried(self, arc):
        return self.rooms[arc + 1]

    def cost(self):
        return sum([self.carried(arc) * self.prices[arc] for arc in range(0, len(self.heads), 2)])

    def fill(self):
        """Send as much as possible from the source to the sink, at the least cost."""
        found = self.arrivals()
        while self.sink in found:
            arcs = []
            node = self.sink
            while node != self.source:
                arcs.append(found[node])
                node = self.heads[found[node] ^ 1]
            sent = min([self.rooms[arc] for arc in arcs])
            for arc in arcs:
                self.rooms[arc] -= sent
                self.rooms[arc ^ 1] += sent
            self.lacking -= sent
            found = self.arrivals()

    def arrivals(self):
        """Return, for each node with a way from the source, the last arc of a cheapest one (None for the source).

        Of equally cheap ways one with the fewest arcs is taken; otherwise the
        rounds of `fill` could become as many as there are units of heat.
        """
        found = {self.source: None}
        costs = {self.source: (0, 0)}
        waiting = [False for _ in self.leaving]
        queue = [self.source]
        at = 0
        while at < len(queue):
            node = queue[at]
            at += 1
            waiting[node] = False
            price, steps = costs[node]
            for arc in self.leaving[node]:
                head = self.heads[arc]
                cost = (price + self.prices[arc], steps + 1)
                if self.rooms[arc] == 0 or (head in costs and costs[head] <= cost):
                    continue
                costs[head] = cost
                found[head] = arc
                if not waiting[head]:
                    waiting[head] = True
                    queue.append(head)
        return found

    def worths(self):
        """Return a worth for each node: no arc with room left rises in worth by more than its price."""
        found = [0 for _ in self.leaving]
        is_settled = False
        while not is_settled:
            is_settled = True
            for arc, head in enumerate(self.heads):
                worth = found[self.heads[arc ^ 1]] + self.prices[arc]
                if self.rooms[arc] > 0 and worth < found[head]:
                    found[head] = worth
                    is_settled = False
        return found
