"""Prices: the points of schedules that are best for some prices of writing and of reading.

A direction (x, y) prices the write work at x and the read work at y.
"""

from mergebudget.kinds import check_loads, is_count
from mergebudget.optimum import least_of, least_rows
from mergebudget.schedules import is_schedule
from mergebudget.tables import is_bound_table
from mergebudget.work import read_work, write_work

MOST_PRICED_FLUSHES = 24


def corners(sizes, reads):
    """All points that are the only best ones for some prices, ascending."""
    check_loads(sizes, reads, MOST_PRICED_FLUSHES)
    return tuple([point for point, schedule in corners_with_schedules(sizes, reads)])


def corners_with_schedules(sizes, reads):
    """The pairs of a corner and a schedule that has it, by ascending write work."""
    first = best_at(first_direction(reads), sizes, reads)
    last = best_at(last_direction(sizes), sizes, reads)
    if first[0] == last[0]:
        return [first]
    found = [first]
    waiting = [last]
    while waiting:
        nearest = found[-1][0]
        between = best_at(tilted(direction_between(nearest, waiting[-1][0]), sizes), sizes, reads)
        if between[0] == nearest:
            found.append(waiting.pop())
        else:
            waiting.append(between)
    return found


def first_direction(reads):
    """Prices at which the least write work comes first, and the read work decides between equal ones."""
    return (2 + len(reads) * sum(reads), 1)


def last_direction(sizes):
    """Prices at which the least read work comes first, and the write work decides between equal ones."""
    return (1, 2 + len(sizes) * sum(sizes))


def direction_between(point, following):
    """Prices at which two neighbours have the same value."""
    return (point[1] - following[1], following[0] - point[0])


def tilted(direction, sizes):
    """Prices with the same best points, but of several on one line only that of the least write work."""
    x, y = direction
    factor = 1 + len(sizes) * sum(sizes)
    return (x * factor + 1, y * factor)


def best_at(direction, sizes, reads):
    """The point of a schedule that is best at these prices, and the schedule."""
    x, y = direction
    least, schedule = least_of(scaled(sizes, x), scaled(reads, y))
    return (point_of(schedule, sizes, reads), schedule)


def scaled(loads, price):
    """All loads times the price."""
    return tuple([price * load for load in loads])


def point_of(schedule, sizes, reads):
    """The write work and the read work of a schedule."""
    return (write_work(schedule, sizes), read_work(schedule, reads))


def corner_certificate(sizes, reads):
    """A schedule for each corner, and for each direction a bound table of the least value."""
    check_loads(sizes, reads, MOST_PRICED_FLUSHES)
    found = corners_with_schedules(sizes, reads)
    points = [point for point, schedule in found]
    tables = [least_rows(scaled(sizes, x), scaled(reads, y)) for x, y in directions(points, sizes, reads)]
    return (tuple([schedule for point, schedule in found]), tuple(tables))


def directions(points, sizes, reads):
    """The directions before, between and behind the points."""
    between = [direction_between(point, following) for point, following in zip(points, points[1:])]
    return [first_direction(reads)] + between + [last_direction(sizes)]


def shows_corners(sizes, reads, points, value):
    """Whether two values of any kind are the corners and what certifies them."""
    check_loads(sizes, reads, MOST_PRICED_FLUSHES)
    if not are_points(points) or not is_paper(value, len(points)):
        return False
    schedules, tables = value
    if not all([has_point(schedule, point, sizes, reads) for schedule, point in zip(schedules, points)]):
        return False
    listed = directions(points, sizes, reads)
    if not all([x * v > u * y for (x, y), (u, v) in zip(listed, listed[1:])]):
        return False
    # Behind the first direction, each one has the value of the point before it, and of the one after it, too.
    before = points[:1] + points
    return all([is_shown(at, point, rows, sizes, reads) for at, point, rows in zip(listed, before, tables)])


def are_points(value):
    """Whether a value of any kind is a tuple of points that go down strictly, at least one."""
    if not isinstance(value, tuple) or len(value) == 0 or not all([is_point(part) for part in value]):
        return False
    return all([point[0] < after[0] and point[1] > after[1] for point, after in zip(value, value[1:])])


def is_point(value):
    """Whether a value of any kind is a pair of counts."""
    return isinstance(value, tuple) and len(value) == 2 and all([is_count(part) for part in value])


def is_paper(value, many):
    """Whether a value of any kind is a pair of tuples with parts for so many points and their directions."""
    if not isinstance(value, tuple) or len(value) != 2 or not all([isinstance(part, tuple) for part in value]):
        return False
    return len(value[0]) == many and len(value[1]) == many + 1


def has_point(value, point, sizes, reads):
    """Whether a value of any kind is a schedule of all flushes that has this point."""
    return is_schedule(value) and len(value) == len(sizes) and point_of(value, sizes, reads) == point


def is_shown(direction, point, value, sizes, reads):
    """Whether a value of any kind is a bound table that shows that no point is better in this direction."""
    x, y = direction
    if not is_bound_table(value, scaled(sizes, x), scaled(reads, y)):
        return False
    return value[0][-1] == x * point[0] + y * point[1]
