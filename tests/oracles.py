"""The document's words in plain steps, degree by degree and choice by choice, to check answers by."""

import itertools
from fractions import Fraction
from functools import lru_cache

HIGHEST, LOWEST = 1000, -100


def slices(problem):
    """Return (number, level, is_box, heat): a stream's slice lies between its level and the one below it."""
    streams, boxes, gap = problem
    found = []
    for number, (start, goal, rate) in enumerate(streams):
        for degree in range(min(start, goal), max(start, goal)):
            if start > goal:
                found.append((number, degree + 1 - gap, False, rate))
            else:
                found.append((number, degree + 1, False, -rate))
    for number, (temperature, heat) in enumerate(boxes, start=len(streams)):
        found.append((number, temperature - gap if heat > 0 else temperature, True, heat))
    return found


def is_above(piece, level, is_open):
    """Return whether a slice or box lies at levels not smaller than a level, or greater than it."""
    _, at, is_box, _ = piece
    return at > level or (is_box and not is_open and at == level)


def lack(pieces, level, is_open):
    return -sum(piece[3] for piece in pieces if is_above(piece, level, is_open))


def all_levels(problem):
    streams, boxes, gap = problem
    found = set()
    for start, goal, _ in streams:
        found |= {start - gap, goal - gap} if start > goal else {start, goal}
    for temperature, heat in boxes:
        found.add(temperature - gap if heat > 0 else temperature)
    return tuple(sorted(found, reverse=True))


def walk(problem, extra=()):
    """Return the heats that flow on, from 0 at the top: (level, before, behind) for each degree.

    `extra` are pairs (level, heat), heat brought from outside or (negative) carried off.
    """
    at_level, below = {}, {}
    for _, level, is_box, heat in slices(problem):
        table = at_level if is_box else below
        table[level] = table.get(level, 0) + heat
    for level, heat in extra:
        at_level[level] = at_level.get(level, 0) + heat
    flow, steps = 0, []
    for level in range(HIGHEST, LOWEST - 1, -1):
        before = flow
        flow += at_level.get(level, 0)
        steps.append((level, before, flow))
        flow += below.get(level, 0)
    return steps, flow


def outside(problem):
    steps, flow = walk(problem)
    heating = -min(min(before, behind) for _, before, behind in steps)
    return heating, flow + heating


def cascade(problem):
    heating, _ = outside(problem)
    heats = {level: (before, behind) for level, before, behind in walk(problem)[0]}
    return tuple((level, heats[level][0] + heating, heats[level][1] + heating) for level in all_levels(problem))


def is_supplied(problem, hots, colds, brought, carried):
    """Return whether amounts from outside and to it do."""
    extra = [(temperature - problem[2], heat) for (temperature, _), heat in zip(hots, brought)]
    extra += [(temperature, -heat) for (temperature, _), heat in zip(colds, carried)]
    steps, flow = walk(problem, extra)
    return flow == 0 and all(before >= 0 and behind >= 0 for _, before, behind in steps)


def is_worth(problem, hots, colds, value, cost):
    """Return whether a tuple of integers has all that the document asks of a paper of this cost."""
    gap = problem[2]
    found = set(all_levels(problem)) | {degrees - gap for degrees, _ in hots} | {degrees for degrees, _ in colds}
    levels = sorted(found, reverse=True)
    if len(value) != len(levels) or list(value) != sorted(value, reverse=True):
        return False
    worths = dict(zip(levels, value))
    if any(price < worths[degrees - gap] for degrees, price in hots):
        return False
    if any(price < -worths[degrees] for degrees, price in colds):
        return False
    pieces = slices(problem)
    total = -sum(heat * worths[level] for _, level, is_box, heat in pieces if is_box)
    for upper, lower in zip(levels, levels[1:]):
        need = -sum(heat for _, level, is_box, heat in pieces if not is_box and lower < level <= upper)
        total += need * worths[upper if need > 0 else lower]
    return total == cost


def cheapest_by_trying(problem, hots, colds, most):
    """Return the least cost over all amounts up to `most`, or None."""
    costs = []
    for brought in itertools.product(range(most + 1), repeat=len(hots)):
        for carried in itertools.product(range(most + 1), repeat=len(colds)):
            if is_supplied(problem, hots, colds, brought, carried):
                amounts = brought + carried
                costs.append(sum(heat * price for heat, (_, price) in zip(amounts, hots + colds)))
    return min(costs) if costs else None


def place_of(level, is_box, levels):
    if is_box:
        return 2 * levels.index(level)
    return [2 * k + 1 for k in range(len(levels) - 1) if levels[k] >= level > levels[k + 1]][0]


def spots(problem):
    """Return two dicts (number, place): heat, what is given off and what is taken in."""
    levels = all_levels(problem)
    given, taken = {}, {}
    for number, level, is_box, heat in slices(problem):
        table = given if heat > 0 else taken
        key = (number, place_of(level, is_box, levels))
        table[key] = table.get(key, 0) + abs(heat)
    return given, taken


def shares(amount, limits):
    """Yield all tuples of integers within limits whose sum is at most the amount."""
    if not limits:
        yield ()
        return
    for first in range(min(amount, limits[0]) + 1):
        for rest in shares(amount - first, limits[1:]):
            yield (first, *rest)


def passings(given, taken, barred):
    """Yield dicts (giver, place, taker, place): heat, all ways to pass heat on, largest or not."""
    givers = sorted(given)
    takers = sorted(taken)

    def go(at, left):
        if at == len(takers):
            yield {}
            return
        taker, place = takers[at]
        limits = tuple(
            left[k] if giver_place <= place and (giver, taker) not in barred else 0
            for k, (giver, giver_place) in enumerate(givers)
        )
        for share in shares(taken[takers[at]], limits):
            for rest in go(at + 1, tuple(heat - some for heat, some in zip(left, share))):
                yield {**{(*givers[k], taker, place): some for k, some in enumerate(share) if some}, **rest}

    return go(0, tuple(given[spot] for spot in givers))


def most_passed(given, taken, barred):
    """Return the most heat that can be passed on, by trying all choices."""
    givers = sorted(given)
    takers = sorted(taken)

    @lru_cache(maxsize=None)
    def best(at, left):
        if at == len(takers):
            return 0
        taker, place = takers[at]
        limits = tuple(
            left[k] if giver_place <= place and (giver, taker) not in barred else 0
            for k, (giver, giver_place) in enumerate(givers)
        )
        return max(
            sum(share) + best(at + 1, tuple(heat - some for heat, some in zip(left, share)))
            for share in shares(taken[takers[at]], limits)
        )

    return best(0, tuple(given[spot] for spot in givers))


def barred_lack(problem, barred, value):
    """Return what the document lets a tuple of pairs or None, one for each taker, show as lacking."""
    pieces = slices(problem)
    takers = sorted({number for number, _, _, heat in pieces if heat < 0})
    edges = {taker: edge for taker, edge in zip(takers, value) if edge is not None}
    total = 0
    for piece in pieces:
        number, _, _, heat = piece
        if heat < 0:
            if number in edges and is_above(piece, *edges[number]):
                total -= heat
        else:
            helped = [edge for taker, edge in edges.items() if (number, taker) not in barred]
            if any(is_above(piece, *edge) for edge in helped):
                total -= heat
    return total


def barred_heating(problem, barred):
    """Return the most that any tuple of pairs shows as lacking: the least heating."""
    edges = [None] + [(level, is_open) for level in all_levels(problem) for is_open in (False, True)]
    takers = {number for number, _, _, heat in slices(problem) if heat < 0}
    values = itertools.product(edges, repeat=len(takers))
    return max(barred_lack(problem, barred, value) for value in values)


def is_passing(problem, barred, value, heating):
    """Return whether a tuple of five integers each is a passing with this heating."""
    given, taken = spots(problem)
    if [entry[:4] for entry in value] != sorted({entry[:4] for entry in value}):
        return False
    gone, got = {}, {}
    for giver, giver_place, taker, taker_place, heat in value:
        if heat < 1 or (giver, taker) in barred or giver_place > taker_place:
            return False
        gone[(giver, giver_place)] = gone.get((giver, giver_place), 0) + heat
        got[(taker, taker_place)] = got.get((taker, taker_place), 0) + heat
    if any(heat > given.get(spot, 0) for spot, heat in gone.items()):
        return False
    if any(heat > taken.get(spot, 0) for spot, heat in got.items()):
        return False
    return sum(taken.values()) - sum(got.values()) == heating


def tables(givers, takers):
    """Yield all tables of integers from 0 on with these sums of rows and columns."""
    if not givers:
        if not any(takers):
            yield ()
        return
    for row in shares(givers[0], takers):
        if sum(row) == givers[0]:
            for rest in tables(givers[1:], tuple(load - some for load, some in zip(takers, row))):
                yield (row, *rest)


def entries(table):
    return sum(1 for row in table for load in row if load > 0)


def most_groups(givers, takers):
    """Return the greatest number of balanced groups, by giving each index the number of a group."""
    best = 0
    many = min(len(givers), len(takers))
    for some in itertools.product(range(many), repeat=len(givers)):
        for others in itertools.product(range(many), repeat=len(takers)):
            sums = {}
            for load, group in zip(givers, some):
                sums.setdefault(group, [0, 0])[0] += load
            for load, group in zip(takers, others):
                sums.setdefault(group, [0, 0])[1] += load
            if all(one == other for one, other in sums.values()):
                best = max(best, len(sums))
    return best


def is_grouping(givers, takers, value):
    """Return whether a tuple of pairs splits all indexes into balanced groups, in ascending order."""
    if list(value) != sorted(value):
        return False
    for some, others in value:
        if not some or not others or list(some) != sorted(some) or list(others) != sorted(others):
            return False
        if sum(givers[index] for index in some) != sum(takers[index] for index in others):
            return False
    every = sorted(index for some, _ in value for index in some)
    every_other = sorted(index for _, others in value for index in others)
    return every == list(range(len(givers))) and every_other == list(range(len(takers)))


def outside_spots(problem):
    """Return `spots` with the least heating and the cooling with it as number -1."""
    given, taken = spots(problem)
    heating, cooling = outside(problem)
    if heating:
        given[(-1, 0)] = heating
    if cooling:
        taken[(-1, 2 * len(all_levels(problem)) - 2)] = cooling
    return given, taken


def smallest_matches(problem):
    """Return the smallest tuple of the fewest pairs, by trying all."""
    given, taken = outside_spots(problem)
    pairs = sorted({(giver, taker) for giver, _ in given for taker, _ in taken})
    for many in range(len(pairs) + 1):
        for chosen in itertools.combinations(pairs, many):
            barred = [pair for pair in pairs if pair not in chosen]
            if most_passed(given, taken, barred) == sum(taken.values()):
                return chosen
    return None


def temperatures(problem, network):
    """Return the four temperatures of each exchanger as fractions, None for the outside."""
    found = []
    for index, (hot, cold, load) in enumerate(network):
        row = [None, None, None, None]
        if hot != -1:
            start, _, rate = problem[0][hot]
            before = sum(heat for one, _, heat in network[:index] if one == hot)
            row[0] = start - Fraction(before, rate)
            row[1] = row[0] - Fraction(load, rate)
        if cold != -1:
            start, _, rate = problem[0][cold]
            before = sum(heat for _, one, heat in network[index + 1:] if one == cold)
            row[2] = start + Fraction(before, rate)
            row[3] = row[2] + Fraction(load, rate)
        found.append(tuple(row))
    return tuple(found)


def flaw(problem, network):
    for number, (start, goal, rate) in enumerate(problem[0]):
        if sum(load for hot, cold, load in network if number in (hot, cold)) != rate * abs(start - goal):
            return ("goal", number)
    for index, row in enumerate(temperatures(problem, network)):
        if None not in row and (row[0] - row[3] < problem[2] or row[1] - row[2] < problem[2]):
            return ("gap", index)
    return None


def is_ring(network, value):
    """Return whether a tuple of indexes is a ring of a network."""
    if len(value) < 2 or len(value) % 2 or len(set(value)) < len(value):
        return False
    hots, colds = [], []
    for at in range(len(value)):
        one, other = network[value[at]], network[value[(at + 1) % len(value)]]
        side, shared = (1, colds) if at % 2 == 0 else (0, hots)
        if one[side] != other[side]:
            return False
        shared.append(one[side])
    return len(set(hots)) == len(hots) and len(set(colds)) == len(colds)


def all_rings(network):
    found = []
    for many in range(2, len(network) + 1, 2):
        found += [value for value in itertools.permutations(range(len(network)), many) if is_ring(network, value)]
    return found


def ends(network):
    return {("hot", hot) for hot, _, _ in network} | {("cold", cold) for _, cold, _ in network}


def parts(network):
    """Return how many parts the ends of a network fall into."""
    groups = [{end} for end in ends(network)]
    for hot, cold, _ in network:
        joined = [group for group in groups if ("hot", hot) in group or ("cold", cold) in group]
        groups = [group for group in groups if group not in joined] + [set().union(*joined)]
    return len(groups)


def sums_of_ends(network):
    sums = {}
    for hot, cold, load in network:
        sums[("hot", hot)] = sums.get(("hot", hot), 0) + load
        sums[("cold", cold)] = sums.get(("cold", cold), 0) + load
    return sums


def random_problem(random, streams, boxes, span=200, rate=9, heat=300, gap=30):
    """Return a problem of at most so many streams and boxes."""
    while True:
        some = []
        for _ in range(random.randint(0, streams)):
            start, goal = random.sample(range(span + 1), 2)
            some.append((start, goal, random.randint(1, rate)))
        others = []
        for _ in range(random.randint(0, boxes)):
            others.append((random.randint(0, span), random.choice((-1, 1)) * random.randint(1, heat)))
        if some or others:
            return tuple(some), tuple(others), random.randint(0, gap)


def tiny_problem(random, streams, boxes):
    """Return a problem with so little heat that all choices can be tried."""
    return random_problem(random, streams, boxes, span=4, rate=1, heat=2, gap=2)


def random_barred(random, problem):
    """Return barred pairs, often none or all."""
    numbers = {}
    for number, _, _, heat in slices(problem):
        numbers[number] = heat > 0
    pairs = [(giver, taker) for giver in sorted(numbers) for taker in sorted(numbers)]
    pairs = [(giver, taker) for giver, taker in pairs if numbers[giver] and not numbers[taker]]
    share = random.choice((0, 0.3, 0.3, 0.6, 1))
    return tuple(pair for pair in pairs if random.random() < share)
