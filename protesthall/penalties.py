"""Penalties: whether a case is valid, and which boat gets which."""

from protesthall.holding import counting_instances, known_atoms


def tell_penalties(book, case):
    """1 if the case is valid, else 0; then for each boat how many penalties she gets, and their lines' numbers."""
    known = known_atoms(book, case, counting_instances(book, case))
    valid = is_valid(book, known)
    told = [1 if valid else 0]
    for boat in case.boats.values():
        lines = penalties_of(boat, book, known) if valid else []
        told.append(len(lines))
        told.extend(lines)
    return told


def is_valid(book, known):
    if book.valid == "":
        return True
    return (book.predicates[book.valid][0], 0, 0) in known


def penalties_of(boat, book, known):
    """The numbers of the penalty lines whose predicate holds of the boat."""
    lines = []
    for number, penalty in enumerate(book.penalties, start=1):
        if (book.predicates[penalty[0]][0], boat, 0) in known:
            lines.append(number)
    return lines
