"""Owners of streams and boxes, and how they share the least heating."""

from pinchworks.bodies import bodies_of, heating_of, lack_above
from pinchworks.cascades import heating_paper
from pinchworks.checks import check_problem, is_integer, is_row, is_within
from pinchworks.errors import BadOwners

MOST_OWNER = 3


def heat_shares(problem, owners):
    """Return shares of the least heating that no set of owners can better by staying apart."""
    check_owners(problem, owners)
    bodies = bodies_of(problem)
    many = max(owners) + 1
    paper = heating_paper(problem)
    if paper is None:
        return tuple([0 for _ in range(many)])
    # Each set of owners lacks above this level what its shares sum to, and so needs at least that much.
    level, is_open = paper
    return tuple([lack_above(owned(bodies, owners, (owner,)), level, is_open) for owner in range(many)])


def shows_shares(problem, owners, value):
    check_owners(problem, owners)
    bodies = bodies_of(problem)
    many = max(owners) + 1
    if not is_row(value, many, many) or not all([is_integer(share) for share in value]):
        return False
    if sum(value) != heating_of(bodies):
        return False
    for bits in range(1, 1 << many):
        some = [owner for owner in range(many) if (bits >> owner) & 1]
        if sum([value[owner] for owner in some]) > heating_of(owned(bodies, owners, some)):
            return False
    return True


def check_owners(problem, owners):
    check_problem(problem)
    many = len(problem[0]) + len(problem[1])
    if not is_row(owners, many, many) or not all([is_within(owner, 0, MOST_OWNER) for owner in owners]):
        raise BadOwners(f"owners are a tuple of one integer from 0 to {MOST_OWNER} for each stream and box")


def owned(bodies, owners, some):
    """Return the list of the bodies of some owners."""
    return [body for body, owner in zip(bodies, owners) if owner in some]
