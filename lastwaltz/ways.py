"""Ways from guest to guest, over whatever links two of them."""


def tree_from(first, guests, linked):
    """All of the guests who can be reached from the first, the nearest ones first.

    Each is told with the one ahead of them on a shortest way, the first with None.
    """
    tree = {first: None}
    reached = [first]
    left = [guest for guest in guests if guest != first]
    at = 0
    while at < len(reached):
        one = reached[at]
        fresh = [other for other in left if linked(one, other)]
        for other in fresh:
            tree[other] = one
        reached.extend(fresh)
        left = [other for other in left if other not in tree]
        at += 1
    return tree


def way_up(tree, guest):
    """The guests on the tree's way from this one to the tree's first."""
    way = [guest]
    while tree[way[-1]] is not None:
        way.append(tree[way[-1]])
    return way


def way_between(tree, one, other):
    """The guests on the tree's way from the one to the other."""
    up = way_up(tree, one)
    down = way_up(tree, other)
    # Both end at the tree's first; the way turns where they come together.
    while len(up) > 1 and len(down) > 1 and up[-2] == down[-2]:
        up.pop()
        down.pop()
    return up + down[:-1][::-1]
