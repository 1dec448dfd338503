"""The least reader of a reader of any size."""

from pointingreads.classes import refined, told_order
from pointingreads.readers import stands_met
from pointingreads.routes import least_routes, route


def hand_nodes(held):
    """The number of the first hand of each stand, if all hands of all stands are numbered."""
    first = []
    many = 0
    for hands in held:
        first.append(many)
        many += hands
    return first


def hand_arrows(reader):
    """For each hand of each stand, by number, where its entry is behind each mark."""
    _, held, steps, _ = reader
    first = hand_nodes(held)
    arrows = [[] for _ in range(sum(held))]
    for stand, row in enumerate(steps):
        for mark, (behind, keep) in enumerate(row):
            for hand, old in enumerate(keep):
                if old >= 0:
                    arrows[first[stand] + old].append((mark, first[behind] + hand))
    return arrows


def pointed_nodes(reader):
    """The numbers of the hands that are pointed at."""
    first = hand_nodes(reader[1])
    return [first[stand] + hand for stand, hand in enumerate(reader[3]) if hand >= 0]


def pointers(reader):
    """For each stand the pointers of its hands, None of one that is not live."""
    first = hand_nodes(reader[1])
    begins, ranks = least_routes(hand_arrows(reader), pointed_nodes(reader))
    found = []
    for stand, hands in enumerate(reader[1]):
        found.append(tuple([
            None if ranks[node] is None else route(begins, node)
            for node in range(first[stand], first[stand] + hands)
        ]))
    return tuple(found)


def live_order(ranks):
    """The live hands of a stand in the order of their pointers."""
    return [hand for _, hand in sorted([(rank, hand) for hand, rank in enumerate(ranks) if rank is not None])]


def tidied(reader):
    """The reader with live hands alone, in the order of their pointers, and their ranks."""
    sorts, held, steps, points = reader
    first = hand_nodes(held)
    _, ranks = least_routes(hand_arrows(reader), pointed_nodes(reader))
    hand_ranks = [tuple(ranks[first[stand]:first[stand] + hands]) for stand, hands in enumerate(held)]
    orders = [live_order(row) for row in hand_ranks]
    numbers = [{hand: number for number, hand in enumerate(order)} for order in orders]
    tidy = []
    for stand, row in enumerate(steps):
        tidy.append(tuple([
            (behind, tuple([-1 if keep[hand] < 0 else numbers[stand][keep[hand]] for hand in orders[behind]]))
            for behind, keep in row
        ]))
    tidy_points = [-1 if hand < 0 else numbers[stand][hand] for stand, hand in enumerate(points)]
    known = [tuple([told[hand] for hand in order]) for told, order in zip(hand_ranks, orders)]
    return (sorts, [len(order) for order in orders], tidy, tidy_points), known


def folded(reader):
    """The least reader; nothing is asked of the numbers of stands and hands."""
    (sorts, held, steps, points), known = tidied(reader)
    met, moves = stands_met(steps)
    # equal pointers are equal hands, so what is kept can be compared by the hands' numbers
    keys = [
        (known[stand], points[stand], tuple([keep for _, keep in steps[stand]]))
        for stand in met
    ]
    classes = refined(keys, moves, None)
    order, numbers = told_order(classes, moves)
    told = [met[number] for number in order]
    stands = {stand: numbers[classes[number]] for number, stand in enumerate(met)}
    return (
        sorts,
        tuple([held[stand] for stand in told]),
        tuple([tuple([(stands[behind], keep) for behind, keep in steps[stand]]) for stand in told]),
        tuple([points[stand] for stand in told]),
    )
