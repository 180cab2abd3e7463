"""Distances and ways between corners, and what can be come to."""

# More than any way is long: no way takes a street twice, and 20 streets have at most 20000000.
FAR = 1000000000


def is_at(street, corner):
    """Whether the corner is one of the street's two."""
    return street.first == corner or street.second == corner


def other_end(street, corner):
    """Where one comes out who goes along the street from this corner of it."""
    if street.first == corner:
        return street.second
    return street.first


def streets_alone(n, streets):
    """The least length of one street between any two corners, FAR where there is none."""
    table = []
    for corner in range(n + 1):
        lengths = [FAR] * (n + 1)
        lengths[corner] = 0
        table.append(lengths)
    for street in streets:
        least = min(street.length, table[street.first][street.second])
        table[street.first][street.second] = least
        table[street.second][street.first] = least
    return table


def distances(n, streets):
    """The distance of any two corners, as table[one][other]; FAR where there is no way."""
    table = streets_alone(n, streets)
    for middle in range(1, n + 1):
        for one in range(1, n + 1):
            for other in range(1, n + 1):
                by_middle = table[one][middle] + table[middle][other]
                if by_middle < table[one][other]:
                    table[one][other] = by_middle
    return table


def first_street(streets, table, corner, goal):
    """The street of least number at the corner with which a shortest way to the goal begins."""
    for street in streets:
        if is_at(street, corner):
            if street.length + table[other_end(street, corner)][goal] == table[corner][goal]:
                return street
    return None


def way(streets, table, start, goal):
    """The streets of the way from a corner to another one that can be come to."""
    taken = []
    corner = start
    while corner != goal:
        street = first_street(streets, table, corner, goal)
        taken.append(street)
        corner = other_end(street, corner)
    return taken


def reaches_all(streets, corner):
    """Whether one can come from the corner to every one of these streets, by these streets alone."""
    seen = {corner: True}
    touching = [street for street in streets if is_at(street, corner)]
    left = [street for street in streets if not is_at(street, corner)]
    while touching:
        for street in touching:
            seen[street.first] = True
            seen[street.second] = True
        touching = [street for street in left if street.first in seen or street.second in seen]
        left = [street for street in left if street.first not in seen and street.second not in seen]
    return len(left) == 0


def connected(book):
    """Whether one can come from the depot to every street of the round."""
    return reaches_all(book.streets, book.depot)
