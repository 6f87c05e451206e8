"""The stands while texts grow: split and linked sign by sign, numbered in order only when the table is asked for."""


class Nodes:
    # A node is a stand under the number by which it came.
    # Of each node are kept how long its longest word is, its link, and its ways, a dict from sign to node.
    # The head of a text is the node of the whole text. No longer word ends there, so the text is the longest
    # word of its head, and a split, which takes shorter words away to a new node, leaves the head as it is.

    def __init__(self):
        self.longs = []
        self.links = []
        self.ways = []
        self.new_node(0, None, {})

    def new_node(self, long, link, ways):
        self.longs.append(long)
        self.links.append(link)
        self.ways.append(ways)
        return len(self.longs) - 1

    def head_grown(self, head, word):
        for sign in word:
            head = self.head_behind(head, sign)
        return head

    def head_behind(self, head, sign):
        # The grown text may be a part already, of this text or of another one.
        if sign in self.ways[head]:
            return self.node_just_behind(head, sign)
        fresh = self.new_node(self.longs[head] + 1, 0, {})
        node = head
        while node is not None and sign not in self.ways[node]:
            self.ways[node][sign] = fresh
            node = self.links[node]
        if node is not None:
            self.links[fresh] = self.node_just_behind(node, sign)
        return fresh

    def node_just_behind(self, node, sign):
        # The longest word of the node, with the sign behind it, gets a new place now, and so do its tails,
        # but longer words that had its places don't: where there are such, it is split off from them.
        old = self.ways[node][sign]
        long = self.longs[node] + 1
        if self.longs[old] == long:
            return old
        half = self.new_node(long, self.links[old], dict(self.ways[old]))
        self.links[old] = half
        while node is not None and self.ways[node].get(sign) == old:
            self.ways[node][sign] = half
            node = self.links[node]
        return half

    def table(self):
        numbers = self.numbers_by_node()
        return [self.row_of(node, numbers) for node in numbers]

    def numbers_by_node(self):
        # Gone through breadth first, by rising signs, each node is met first by its shortest word,
        # and the nodes are met in the order of these words: that is the order of the stands.
        numbers = {0: 0}
        met = [0]
        done = 0
        while done < len(met):
            ways = self.ways[met[done]]
            for sign in sorted(ways):
                if ways[sign] not in numbers:
                    numbers[ways[sign]] = len(met)
                    met.append(ways[sign])
            done = done + 1
        return numbers

    def row_of(self, node, numbers):
        link = self.links[node]
        ways = self.ways[node]
        steps = tuple([(sign, numbers[ways[sign]]) for sign in sorted(ways)])
        if link is None:
            return (0, 0, None, steps)
        return (self.longs[link] + 1, self.longs[node], numbers[link], steps)


def table_of(book):
    # Only a Machine refuses a list of too many texts or signs; what is told of a book goes through here.
    nodes = Nodes()
    for text in book:
        nodes.head_grown(0, text)
    return nodes.table()
