"""Trees of one size, symbol by symbol: how many begin so and go on with which symbol."""


class OpenPiece:
    """A piece whose parts are not all there: its root, the names of its parts so far, and what its name may be."""

    def __init__(self, symbol, after):
        self.symbol = symbol
        self.part_names = ()
        self.after = after


class Beginning:
    """The first symbols of trees with a number of symbols in all, of the lot of a driven grammar.

    For each name that the next piece may have, and each number of symbols, after tells in how many
    ways so many symbols can come behind this piece.
    """

    def __init__(self, driven, forests, size):
        self.forests = forests
        self.left = size
        self.rules = driven[2]
        self.results = {(word, parts): result for result, word, parts in driven[2]}
        self.by_symbol = {}
        for result, word, parts in driven[2]:
            self.by_symbol.setdefault((word, len(parts)), []).append((result, parts))
        self.open_pieces = []
        self.after = {start: {0: 1} for start in driven[1]}
        forests.count_to(size)

    def counts_for(self, names):
        """How many forests of these names there are, by their numbers of symbols."""
        number = self.forests.numbers_by_key.get(names)
        return {} if number is None else self.forests.counts_by_size[number]

    def many_with(self, symbol):
        """How many trees go on with this symbol."""
        many = 0
        for result, parts in self.by_symbol.get(symbol, []):
            counts = self.counts_for(parts)
            for behind, ways in self.after.get(result, {}).items():
                many += ways * counts.get(self.left - 1 - behind, 0)
        return many

    def go_on(self, symbol):
        """Adds this symbol, which has to be one that some tree goes on with."""
        self.left -= 1
        if symbol[1] > 0:
            self.open_pieces.append(OpenPiece(symbol, self.after))
            self.look_ahead()
            return
        name = self.results[(symbol[0], ())]
        while self.open_pieces:
            piece = self.open_pieces[-1]
            piece.part_names += (name,)
            if len(piece.part_names) < piece.symbol[1]:
                self.look_ahead()
                return
            name = self.results[(piece.symbol[0], piece.part_names)]
            self.open_pieces.pop()

    def look_ahead(self):
        """Tells what may come behind the next part of the last open piece."""
        piece = self.open_pieces[-1]
        at = len(piece.part_names)
        self.after = {}
        for result, parts in self.by_symbol[piece.symbol]:
            if result in piece.after and parts[:at] == piece.part_names:
                self.add_ways(parts[at], self.counts_for(parts[at + 1:]), piece.after[result])

    def add_ways(self, name, counts, outer):
        """Adds the ways behind a part of this name: the other parts, told by counts, and what is behind the whole."""
        own = self.counts_for((name,))
        row = self.after.setdefault(name, {})
        for behind, ways in outer.items():
            for size, many in counts.items():
                # No others are needed than those that fill up the tree.
                if self.left - behind - size in own:
                    row[behind + size] = row.get(behind + size, 0) + ways * many
