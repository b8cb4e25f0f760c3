import copy
import fractions
import itertools
import random
import unittest

from mergebudget.optimum import least_work
from mergebudget.prices import corner_certificate, corners, shows_corners
from mergebudget.schedules import all_schedules
from mergebudget.tables import table
from mergebudget.trees import mirror
from mergebudget.work import read_work, write_work
from tests.loads import (
    MOST_LOAD, Trial, changed_places, load_pairs, other_parts, plain_read_work, plain_shows_bound, plain_write_work,
    random_loads, shaped_loads, small_pairs,
)  # fmt: skip
from tests.samples import assert_bool, assert_same, fixed_values, merges_nothing, plain_is_schedule, random_values


def plain_points(sizes, reads):
    """The points of all schedules, each simulated."""
    listed = all_schedules(len(sizes))
    return {(plain_write_work(schedule, sizes), plain_read_work(schedule, reads)) for schedule in listed}


def is_corner(point, points):
    """Whether some prices above 0 have this point as the only best one: the ratios x / y that do are an interval."""
    low, high = fractions.Fraction(0), None
    for other in points:
        if other == point:
            continue
        less, more = point[0] - other[0], other[1] - point[1]
        # x * less must be below y * more.
        if less == 0:
            if more <= 0:
                return False
        elif less > 0:
            bound = fractions.Fraction(more, less)
            high = bound if high is None else min(high, bound)
        else:
            low = max(low, fractions.Fraction(more, less))
    return high is None or low < high


def plain_corners(sizes, reads):
    points = plain_points(sizes, reads)
    return tuple(sorted(point for point in points if is_corner(point, points)))


def plain_directions(sizes, reads, points):
    """The directions of a sequence of points, by the words of point 15."""
    n = len(sizes)
    between = [(one[1] - two[1], two[0] - one[0]) for one, two in zip(points, points[1:])]
    return [(2 + n * sum(reads), 1)] + between + [(1, 2 + n * sum(sizes))]


def scaled(loads, price):
    return tuple(price * load for load in loads)


def plain_shows_corners(sizes, reads, points, value):
    """Whether two values meet all conditions, by the words of point 15."""
    n = len(sizes)
    if type(points) is not tuple or len(points) < 1:
        return False
    for point in points:
        if type(point) is not tuple or len(point) != 2 or any(type(part) is not int or part < 0 for part in point):
            return False
    for one, two in zip(points, points[1:]):
        if not (one[0] < two[0] and one[1] > two[1]):
            return False
    if type(value) is not tuple or len(value) != 2 or type(value[0]) is not tuple or type(value[1]) is not tuple:
        return False
    schedules, tables = value
    if len(schedules) != len(points) or len(tables) != len(points) + 1:
        return False
    for schedule, point in zip(schedules, points):
        if not plain_is_schedule(schedule) or len(schedule) != n:
            return False
        if (plain_write_work(schedule, sizes), plain_read_work(schedule, reads)) != point:
            return False
    listed = plain_directions(sizes, reads, points)
    for (x, y), (u, v) in zip(listed, listed[1:]):
        if not x * v > u * y:
            return False
    for at, ((x, y), rows) in enumerate(zip(listed, tables)):
        for point in points[max(0, at - 1) : at + 1]:
            if not plain_shows_bound(scaled(sizes, x), scaled(reads, y), x * point[0] + y * point[1], rows):
                return False
    return True


def great_pairs():
    """Loads of up to 24 flushes, from zero to the greatest."""
    rng = random.Random(91)
    for n in (7, 12, 23, 24):
        yield from small_pairs(n, n + 90)
        yield random_loads(rng, n, MOST_LOAD), random_loads(rng, n, 5)
        yield random_loads(rng, n, 5), random_loads(rng, n, MOST_LOAD)
    yield (MOST_LOAD,) * 24, (MOST_LOAD,) * 24
    yield tuple(range(24)), tuple(range(24, 0, -1))


class CornersTest(unittest.TestCase):
    def test_against_the_points_of_all_schedules(self):
        for n in range(7):
            for sizes, reads in load_pairs(n, n + 92) + [pair for seed in range(6) for pair in small_pairs(n, seed)]:
                assert_same(self, corners(sizes, reads), plain_corners(sizes, reads))

    def test_all_small_loads(self):
        for n in range(4):
            for sizes in itertools.product(range(3), repeat=n):
                for reads in itertools.product(range(3), repeat=n):
                    assert_same(self, corners(sizes, reads), plain_corners(sizes, reads))

    def test_by_other_prices(self):
        rng = random.Random(93)
        for sizes, reads in great_pairs():
            points = corners(sizes, reads)
            for turn in range(6):
                x = rng.choice((1, 2, 7, 10**6, rng.randint(1, 10**9)))
                y = rng.choice((1, 3, 10**4, rng.randint(1, 50)))
                least = Trial(scaled(sizes, x), scaled(reads, y)).best(0, len(sizes), None, None)[0]
                self.assertEqual(min(x * point[0] + y * point[1] for point in points), least)
            if max(sizes + reads) <= 10**6:
                self.assertEqual(min(map(sum, points)), least_work(sizes, reads)[0])
                for x, y in ((7, 1), (1, 7), (100, 99)):
                    least = least_work(scaled(sizes, x), scaled(reads, y))[0]
                    self.assertEqual(min(x * point[0] + y * point[1] for point in points), least)

    def test_each_corner_is_the_only_best_of_them(self):
        for sizes, reads in great_pairs():
            points = corners(sizes, reads)
            self.assertTrue(type(points) is tuple and points and list(points) == sorted(set(points)))
            self.assertTrue(all(is_corner(point, points) for point in points))
            # At the prices between two neighbours, nothing is better than they are.
            for (x, y), one, two in zip(plain_directions(sizes, reads, points)[1:], points, points[1:]):
                least = Trial(scaled(sizes, x), scaled(reads, y)).best(0, len(sizes), None, None)[0]
                self.assertEqual((x * one[0] + y * one[1], x * two[0] + y * two[1]), (least, least))

    def test_first_and_last(self):
        for sizes, reads in great_pairs():
            n = len(sizes)
            points = corners(sizes, reads)
            self.assertEqual(points[0][0], sum(sizes))
            self.assertEqual(points[-1][1], sum(reads))
            if all(sizes) and all(reads):
                schedule = merges_nothing(n)
                assert_same(self, points[0], (write_work(schedule, sizes), read_work(schedule, reads)))
                schedule = mirror(schedule)
                assert_same(self, points[-1], (write_work(schedule, sizes), read_work(schedule, reads)))

    def test_known_by_hand(self):
        assert_same(self, corners((), ()), ((0, 0),))
        assert_same(self, corners((3,), (4,)), ((3, 4),))
        assert_same(self, corners((3, 5), (4, 6)), ((8, 16), (11, 10)))
        assert_same(self, corners((0, 5), (4, 6)), ((5, 10),))
        assert_same(self, corners((3, 5), (4, 0)), ((8, 4),))
        assert_same(self, corners((1, 1, 1), (1, 1, 1)), ((3, 6), (4, 4), (6, 3)))
        assert_same(self, corners((2, 2, 2), (3, 3, 3)), ((6, 18), (8, 12), (12, 9)))
        for n in (1, 2, 5, 24):
            for loads in shaped_loads(n):
                assert_same(self, corners((0,) * n, loads), ((0, sum(loads)),))
                assert_same(self, corners(loads, (0,) * n), ((sum(loads), 0),))
            assert_same(self, corners((0,) * n, (0,) * n), ((0, 0),))

    def test_points_on_a_line_are_no_corners(self):
        # Of the points (3, 6), (4, 5), (5, 4) and so on, only the ends of a line count.
        for sizes, reads in (((1,) * 4, (1,) * 4), ((1,) * 5, (1,) * 5), ((2, 1, 0, 1), (1, 0, 1, 2))):
            points = corners(sizes, reads)
            for one, two, three in zip(points, points[1:], points[2:]):
                first = (two[1] - one[1]) * (three[0] - two[0])
                second = (three[1] - two[1]) * (two[0] - one[0])
                self.assertLess(first, second)
            assert_same(self, points, plain_corners(sizes, reads))

    def test_mirrored_problem(self):
        for sizes, reads in itertools.chain(great_pairs(), (pair for n in range(6) for pair in load_pairs(n, n + 94))):
            mirrored = tuple((many, written) for written, many in reversed(corners(sizes, reads)))
            assert_same(self, corners(reads[::-1], sizes[::-1]), mirrored)


class CertificateTest(unittest.TestCase):
    def check(self, sizes, reads):
        points = corners(sizes, reads)
        paper = corner_certificate(sizes, reads)
        self.assertTrue(type(paper) is tuple and len(paper) == 2)
        self.assertTrue(plain_shows_corners(sizes, reads, points, paper))
        self.assertIs(shows_corners(sizes, reads, points, paper), True)

    def test_short_ones(self):
        for n in range(7):
            for sizes, reads in load_pairs(n, n + 95):
                self.check(sizes, reads)

    def test_long_ones(self):
        for sizes, reads in list(great_pairs())[::4]:
            self.check(sizes, reads)

    def test_tables_have_the_least_values(self):
        for sizes, reads in small_pairs(6, 96):
            schedules, tables = corner_certificate(sizes, reads)
            points = corners(sizes, reads)
            for (x, y), rows in zip(plain_directions(sizes, reads, points), tables, strict=True):
                least = min(x * point[0] + y * point[1] for point in plain_points(sizes, reads))
                self.assertEqual(rows[0][-1], least)

    def test_no_flush(self):
        assert_same(self, corner_certificate((), ()), (((),), (((0,),), ((0,),))))
        self.assertIs(shows_corners((), (), ((0, 0),), (((),), (((0,),), ((0,),)))), True)
        self.assertIs(shows_corners((), (), ((0, 0),), (((),), (((0,),), ((-1,),)))), False)
        self.assertIs(shows_corners((), (), ((0, 1),), (((),), (((0,),), ((0,),)))), False)
        self.assertIs(shows_corners((), (), (), ((), (((0,),),))), False)


class ShowsCornersTest(unittest.TestCase):
    def check(self, sizes, reads, points, value):
        found = shows_corners(sizes, reads, points, value)
        assert_bool(self, found, plain_shows_corners(sizes, reads, points, value), (sizes, reads, points, value))
        if found:
            assert_same(self, points, corners(sizes, reads))
        return found

    def cases(self):
        for n in (0, 1, 2, 3):
            for sizes, reads in small_pairs(n, n + 97)[:6]:
                yield sizes, reads, corners(sizes, reads), corner_certificate(sizes, reads)
        yield (5, 1, 1), (1, 1, 1), corners((5, 1, 1), (1, 1, 1)), corner_certificate((5, 1, 1), (1, 1, 1))

    def test_points_changed_at_any_depth(self):
        for sizes, reads, points, paper in self.cases():
            for value in changed_places(points, other_parts):
                before = copy.deepcopy(value)
                self.check(sizes, reads, value, paper)
                self.assertEqual(repr(value), repr(before))

    def test_paper_changed_at_any_depth(self):
        accepted = 0
        for sizes, reads, points, paper in list(self.cases())[::2]:
            for value in changed_places(paper, other_parts):
                accepted += self.check(sizes, reads, points, value)
        self.assertGreater(accepted, 50)

    def test_both_changed(self):
        rng = random.Random(98)
        for sizes, reads, points, paper in list(self.cases())[::3]:
            places = list(changed_places(points, other_parts))
            papers = list(changed_places(paper, other_parts))
            for turn in range(60):
                self.check(sizes, reads, rng.choice(places), rng.choice(papers))

    def test_a_point_more_or_fewer(self):
        for sizes, reads in small_pairs(4, 99) + small_pairs(5, 99):
            points, (schedules, tables) = corners(sizes, reads), corner_certificate(sizes, reads)
            for at in range(len(points)):
                fewer = points[:at] + points[at + 1 :]
                kept = schedules[:at] + schedules[at + 1 :]
                for place in range(len(tables)):
                    paper = (kept, tables[:place] + tables[place + 1 :])
                    self.assertIs(self.check(sizes, reads, fewer, paper), False)
                self.assertIs(self.check(sizes, reads, fewer, (kept, own_tables(sizes, reads, fewer))), False)

    def test_a_point_on_or_above_the_polygon(self):
        for sizes, reads in small_pairs(4, 100) + small_pairs(5, 100):
            points, (schedules, tables) = corners(sizes, reads), corner_certificate(sizes, reads)
            for schedule in all_schedules(len(sizes)):
                point = (write_work(schedule, sizes), read_work(schedule, reads))
                if point in points:
                    continue
                pairs = sorted(zip(points + (point,), schedules + (schedule,)))
                more = tuple(one for one, other in pairs)
                chosen = tuple(other for one, other in pairs)
                if all(one[0] < two[0] and one[1] > two[1] for one, two in zip(more, more[1:])):
                    paper = (chosen, own_tables(sizes, reads, more))
                    self.assertIs(self.check(sizes, reads, more, paper), False)

    def test_a_tour_around_all_points(self):
        # Once around the whole hull and on to the last corner: every turn and every table is right, the order is not.
        tours = 0
        pairs = [((5, 1, 1), (1, 1, 1)), ((1, 2, 3), (3, 2, 1))]
        for sizes, reads in pairs + small_pairs(3, 105) + small_pairs(4, 105):
            chosen = {(write_work(one, sizes), read_work(one, reads)): one for one in all_schedules(len(sizes))}
            points = corners(sizes, reads)
            hull = around(sorted(chosen))
            if len(hull) < 3:
                continue
            at = hull.index(points[0])
            tour = tuple(hull[at:] + hull[:at]) + points
            turned = plain_directions(sizes, reads, tour)
            self.assertTrue(all(x * v > u * y for (x, y), (u, v) in zip(turned, turned[1:])))
            tables = own_tables(sizes, reads, tour)
            for (x, y), rows, point in zip(turned, tables, tour[:1] + tour, strict=True):
                self.assertEqual(rows[0][-1], x * point[0] + y * point[1])
            paper = (tuple(chosen[point] for point in tour), tables)
            self.assertIs(self.check(sizes, reads, tour, paper), False)
            tours += 1
        self.assertGreater(tours, 5)

    def test_a_schedule_of_another_point(self):
        for sizes, reads in small_pairs(4, 101):
            points, (schedules, tables) = corners(sizes, reads), corner_certificate(sizes, reads)
            for at, schedule in itertools.product(range(len(points)), all_schedules(4) + all_schedules(3)):
                paper = (schedules[:at] + (schedule,) + schedules[at + 1 :], tables)
                fits = len(schedule) == 4 and points[at] == (write_work(schedule, sizes), read_work(schedule, reads))
                self.assertIs(self.check(sizes, reads, points, paper), fits)

    def test_tables_lowered_or_raised(self):
        for sizes, reads in small_pairs(3, 102):
            points, (schedules, tables) = corners(sizes, reads), corner_certificate(sizes, reads)
            for at, step in itertools.product(range(len(tables)), (1, -1, 10**20, -(10**20))):
                rows = tables[at]
                last = (rows[0][:-1] + (rows[0][-1] + step,),) + rows[1:]
                paper = (schedules, tables[:at] + (last,) + tables[at + 1 :])
                self.assertIs(self.check(sizes, reads, points, paper), False)
                other = tables[:at] + (table(sizes, reads),) + tables[at + 1 :]
                self.check(sizes, reads, points, (schedules, other))
            self.check(sizes, reads, points, (schedules, tables[::-1]))
            self.check(sizes, reads, points, (schedules[::-1], tables))
            self.check(sizes, reads, points[::-1], (schedules[::-1], tables[::-1]))
            self.check(sizes, reads, points, (tables, schedules))

    def test_papers_of_other_loads(self):
        rng = random.Random(103)
        for turn in range(150):
            n = rng.choice((1, 2, 3, 4))
            loads = [random_loads(rng, n, rng.choice((1, 2, 5))) for part in range(4)]
            points, paper = corners(*loads[2:]), corner_certificate(*loads[2:])
            self.check(*loads[:2], points, paper)
            self.check(*loads[:2], corners(*loads[:2]), paper)

    def test_values_of_any_kind(self):
        rng = random.Random(104)
        values = fixed_values() + random_values(200)
        for sizes, reads, points, paper in list(self.cases())[::4]:
            for value in values:
                before = copy.deepcopy(value)
                wrapped = rng.choice(((value,), (value, value), ((value,), (value, value)), (paper[0], value)))
                for given in ((points, value), (value, paper), (value, value), (points, wrapped), ((value,), paper)):
                    self.check(sizes, reads, *given)
                self.assertEqual(repr(value), repr(before))

    def test_bools_are_no_counts(self):
        points, paper = corners((1,), (0,)), corner_certificate((1,), (0,))
        assert_same(self, points, ((1, 0),))
        self.assertIs(shows_corners((1,), (0,), ((1, 0),), paper), True)
        self.assertIs(shows_corners((1,), (0,), ((True, 0),), paper), False)
        self.assertIs(shows_corners((1,), (0,), ((1, False),), paper), False)
        self.assertIs(shows_corners((1,), (0,), ([1, 0],), paper), False)
        self.assertIs(shows_corners((1,), (0,), [(1, 0)], paper), False)
        self.assertIs(shows_corners((1,), (0,), ((1, 0),), list(paper)), False)
        self.assertIs(shows_corners((1,), (0,), ((1, 0),), (list(paper[0]), paper[1])), False)
        self.assertIs(shows_corners((1,), (0,), ((1, 0),), (paper[0], list(paper[1]))), False)


def around(points):
    """The corners of the hull of all points, first down on the side of small works, then up on the other side."""

    def chain(ordered):
        kept = []
        for point in ordered:
            while len(kept) > 1 and turn(kept[-2], kept[-1], point) <= 0:
                kept.pop()
            kept.append(point)
        return kept

    return chain(points)[:-1] + chain(points[::-1])[:-1]


def turn(one, two, three):
    return (two[0] - one[0]) * (three[1] - two[1]) - (two[1] - one[1]) * (three[0] - two[0])


def own_tables(sizes, reads, points):
    """For each direction of the points the table of the least works."""
    return tuple(Trial(scaled(sizes, x), scaled(reads, y)).table() for x, y in plain_directions(sizes, reads, points))


if __name__ == "__main__":
    unittest.main()
