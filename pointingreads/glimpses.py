"""What short rows show of a trace: that it wants more than may be told, where that shows soon."""

# how long the rows are that are looked at behind others, by the number of marks
DEPTHS = (0, 30, 4, 3, 2)


class Glimpse:
    """A trace along short rows.

    A configuration is a pair (ITEMS, HELD): the items of an entry that is still to come, and
    for each entry of the row that may be the wanted one its items. with_row tells whether the
    entries of the row itself matter, or those that come behind it alone.
    """

    def __init__(self, trace, with_row):
        self.trace = trace
        self.with_row = with_row
        self.told_nexts = {}
        self.told_goes = {}

    def nexts_of(self, item):
        """For each mark where one goes from an item; each item is asked once."""
        if item not in self.told_nexts:
            self.told_nexts[item] = self.trace.nexts(item)
        return self.told_nexts[item]

    def goes_of(self, item):
        """For each mark where one goes from an item once the wanted entry has come."""
        if item not in self.told_goes:
            self.told_goes[item] = self.trace.goes(item)
        return self.told_goes[item]

    def behind(self, one):
        """For each mark the configuration behind it; the new entry is the last one."""
        rows = [self.nexts_of(item) for item in one[0]]
        held = [[self.goes_of(item) for item in items] for items in one[1]]
        found = []
        for mark in range(self.trace.sorts):
            others = [item for told in rows for item in told[mark][0]]
            kept = [[item for told in moves for item in told[mark]] for moves in held]
            kept.append([item for told in rows for item in told[mark][1]])
            found.append((others, kept))
        return found

    def wanted_in(self, one):
        """The numbers of the entries that are wanted if the row ends."""
        return [
            number for number, items in enumerate(one[1])
            if any([self.trace.is_right(item) for item in items])
        ]

    def name_of(self, one):
        """What the short rows behind a configuration show of it; alike ones have the same name."""
        many = len(one[1])
        numbers = {}
        name = []
        todo = [(one, DEPTHS[self.trace.sorts])]
        while todo:
            at, deep = todo.pop()
            for number in self.wanted_in(at):
                if number >= many:
                    name.append(number - many)
                elif self.with_row:
                    name.append(-1 - numbers.setdefault(number, len(numbers)))
            name.append(None)
            if deep > 0:
                todo.extend([(behind, deep - 1) for behind in self.behind(at)])
        return tuple(name)


def shows_more(trace, most, with_row):
    """Whether short rows show more than so many unlike classes of rows."""
    glimpse = Glimpse(trace, with_row)
    seen = [(trace.starts(), [])]
    names = {glimpse.name_of(seen[0]): True}
    at = 0
    while at < len(seen) and len(names) <= most:
        rows = glimpse.behind(seen[at])
        for items, held in rows:
            one = (items, [told for told in held if told])
            name = glimpse.name_of(one)
            if name not in names:
                names[name] = True
                seen.append(one)
        at += 1
    return len(names) > most
