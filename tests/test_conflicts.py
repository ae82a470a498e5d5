"""Covers and matchings [13], held against a search of all of them."""

import itertools
import random
import unittest

from settingsmerge.conflicts import is_cover, is_matching, least_cover, matching
from things import NO_STRINGS, ODD_STRINGS

FULL = [(x, y) for x in range(12) for y in range(12)]
PATH = [(0, 0), (1, 0), (1, 1), (2, 1), (2, 2)]


def claims(conflicts):
    return sorted({(x, "own") for x, y in conflicts} | {(y, "shipped") for x, y in conflicts})


def covers(conflicts):
    """All covers, those with fewer claims first, of equally many the least first."""
    for size in range(len(claims(conflicts)) + 1):
        for chosen in itertools.combinations(claims(conflicts), size):
            if all((x, "own") in chosen or (y, "shipped") in chosen for x, y in conflicts):
                yield chosen


def matchings(conflicts):
    """All matchings."""
    for size in range(len(set(conflicts)) + 1):
        for chosen in itertools.combinations(sorted(set(conflicts)), size):
            if len({x for x, y in chosen}) == len({y for x, y in chosen}) == size:
                yield chosen


def small_lists():
    """Every list of different conflicts among three slots on each side."""
    pairs = list(itertools.product(range(3), repeat=2))
    for size in range(len(pairs) + 1):
        for chosen in itertools.combinations(pairs, size):
            yield list(chosen)


def some_lists(slots, most, many):
    """Lists in any order, with duplicates; the same ones at each run."""
    source = random.Random(13)
    for turn in range(many):
        size = source.randrange(1, most)
        yield [(source.randrange(slots), source.randrange(slots)) for part in range(size)]


class CoverTest(unittest.TestCase):
    def test_no_conflicts(self):
        self.assertEqual(least_cover([]), ())

    def test_one_conflict(self):
        self.assertEqual(least_cover([(0, 0)]), ((0, "own"),))
        self.assertEqual(least_cover([(3, 7)]), ((3, "own"),))
        self.assertEqual(least_cover([(7, 3)]), ((3, "shipped"),))
        self.assertEqual(least_cover([(11, 11)]), ((11, "own"),))

    def test_duplicates_and_any_order(self):
        for conflicts in itertools.permutations(PATH):
            self.assertEqual(least_cover(list(conflicts) * 2), ((0, "own"), (1, "own"), (2, "own")))
        self.assertEqual(least_cover([(5, 2), (5, 2), (5, 2)]), ((2, "shipped"),))

    def test_fewest_comes_before_least(self):
        self.assertEqual(least_cover([(x, 9) for x in range(9)]), ((9, "shipped"),))
        self.assertEqual(least_cover([(9, y) for y in range(9)]), ((9, "own"),))

    def test_path(self):
        self.assertEqual(least_cover([(0, 5), (1, 5), (1, 6), (2, 6)]), ((5, "shipped"), (6, "shipped")))
        self.assertEqual(least_cover([(5, 0), (5, 1), (6, 1), (6, 2)]), ((5, "own"), (6, "own")))
        self.assertEqual(least_cover([(0, 1), (2, 1), (2, 3)]), ((0, "own"), (2, "own")))
        self.assertEqual(least_cover(PATH), ((0, "own"), (1, "own"), (2, "own")))

    def test_star(self):
        self.assertEqual(least_cover([(4, y) for y in range(12)]), ((4, "own"),))
        self.assertEqual(least_cover([(x, 4) for x in range(12)]), ((4, "shipped"),))
        self.assertEqual(least_cover([(4, y) for y in range(12)] + [(x, 4) for x in range(12)]),
                         ((4, "own"), (4, "shipped")))

    def test_all_conflicts(self):
        self.assertEqual(least_cover(FULL), tuple((x, "own") for x in range(12)))
        self.assertEqual(least_cover(FULL[::-1]), tuple((x, "own") for x in range(12)))
        self.assertEqual(least_cover(FULL[:-12]), tuple((x, "own") for x in range(11)))
        narrow = [(x, y) for x, y in FULL if y < 11]
        self.assertEqual(least_cover(narrow), tuple((y, "shipped") for y in range(11)))

    def test_somewhat_beyond_the_limit(self):
        wide = [(x, y) for x in range(14) for y in range(14)]
        self.assertEqual(least_cover(wide), tuple((x, "own") for x in range(14)))
        self.assertEqual(len(matching(wide)), 14)

    def test_every_small_list(self):
        for conflicts in small_lists():
            self.assertEqual(least_cover(conflicts), next(covers(conflicts)))

    def test_some_larger_lists(self):
        for conflicts in some_lists(slots=6, most=14, many=300):
            self.assertEqual(least_cover(conflicts), next(covers(conflicts)))

    def test_as_many_as_the_matching(self):
        for conflicts in some_lists(slots=12, most=60, many=300):
            cover = least_cover(conflicts)
            pairs = matching(conflicts)
            self.assertEqual(len(cover), len(pairs))
            self.assertIs(is_cover(conflicts, cover), True)
            self.assertIs(is_matching(conflicts, pairs), True)
            self.assertEqual(least_cover(sorted(set(conflicts))), cover)

    def test_result_is_a_tuple_of_tuples(self):
        for conflicts in [[], PATH, FULL]:
            self.assertIs(type(least_cover(conflicts)), tuple)
            self.assertEqual({type(claim) for claim in least_cover(conflicts)} - {tuple}, set())

    def test_by_name(self):
        self.assertEqual(least_cover(conflicts=[(1, 2)]), ((1, "own"),))
        self.assertEqual(matching(conflicts=[(1, 2)]), ((1, 2),))
        self.assertIs(is_cover(conflicts=[(1, 2)], thing=((1, "own"),)), True)
        self.assertIs(is_matching(conflicts=[(1, 2)], thing=((1, 2),)), True)


class MatchingTest(unittest.TestCase):
    def test_no_conflicts(self):
        self.assertEqual(matching([]), ())

    def test_one_conflict(self):
        self.assertEqual(matching([(3, 7)]), ((3, 7),))
        self.assertEqual(matching([(3, 7), (3, 7)]), ((3, 7),))

    def test_only_one_matching(self):
        stairs = [(x, y) for x in range(12) for y in range(12) if x <= y]
        self.assertEqual(matching(stairs), tuple((x, x) for x in range(12)))
        self.assertEqual(matching(stairs[::-1] + stairs), tuple((x, x) for x in range(12)))
        other = [(x, y) for x in range(12) for y in range(12) if x + y <= 11]
        self.assertEqual(matching(other), tuple((x, 11 - x) for x in range(12)))

    def test_long_paths(self):
        path = [(x, x) for x in range(12)] + [(x + 1, x) for x in range(11)]
        for conflicts in [path, path[::-1]]:
            self.assertEqual(matching(conflicts), tuple((x, x) for x in range(12)))
        path = [(x, x + 1) for x in range(11)] + [(x, x) for x in range(11)] + [(11, 0)]
        self.assertEqual(len(matching(path)), 12)

    def test_star(self):
        self.assertEqual(len(matching([(4, y) for y in range(12)])), 1)
        self.assertEqual(len(matching([(x, 4) for x in range(12)])), 1)

    def test_all_conflicts(self):
        pairs = matching(FULL)
        self.assertEqual(len(pairs), 12)
        self.assertIs(is_matching(FULL, pairs), True)

    def test_every_small_list(self):
        for conflicts in small_lists():
            all_matchings = list(matchings(conflicts))
            pairs = matching(conflicts)
            self.assertIs(type(pairs), tuple)
            self.assertIn(pairs, all_matchings)
            self.assertEqual(len(pairs), max(len(each) for each in all_matchings))

    def test_the_order_of_the_list_does_not_matter(self):
        for conflicts in some_lists(slots=5, most=12, many=100):
            self.assertEqual(matching(conflicts), matching(sorted(conflicts)))


class UnchangedTest(unittest.TestCase):
    def test_the_list_is_as_before(self):
        for conflicts in [[], [(3, 1), (0, 2), (3, 1)], PATH * 2, FULL[::-1]]:
            before = list(conflicts)
            least_cover(conflicts)
            matching(conflicts)
            is_cover(conflicts, least_cover(conflicts))
            is_matching(conflicts, matching(conflicts))
            self.assertEqual(conflicts, before)

    def test_the_thing_is_as_before(self):
        for thing in [[(1, "own")], [[1, "own"]], [(1, 2), (0, 1)]]:
            before = repr(thing)
            is_cover([(1, 2), (0, 1)], thing)
            is_matching([(1, 2), (0, 1)], thing)
            self.assertEqual(repr(thing), before)


class IsCoverTest(unittest.TestCase):
    def check(self, conflicts, thing, answer):
        with self.subTest(conflicts=conflicts, thing=thing):
            self.assertIs(is_cover(conflicts, thing), answer)

    def test_every_choice_of_claims(self):
        for conflicts in [[], [(1, 1)], [(0, 2)], PATH, [(1, 0), (0, 1), (1, 0)], [(4, 1), (4, 2), (3, 2)]]:
            right = set(covers(conflicts))
            for size in range(len(claims(conflicts)) + 1):
                for chosen in itertools.combinations(claims(conflicts), size):
                    self.check(conflicts, chosen, chosen in right)

    def test_all_claims(self):
        self.check(FULL, tuple(claims(FULL)), True)
        self.check(FULL, tuple(claims(FULL))[1:], True)
        self.check(FULL, tuple(claims(FULL))[2:], False)

    def test_too_few_and_too_many(self):
        conflicts = [(0, 1), (2, 3)]
        self.check(conflicts, ((0, "own"), (2, "own")), True)
        self.check(conflicts, ((0, "own"), (1, "shipped"), (2, "own"), (3, "shipped")), True)
        self.check(conflicts, ((0, "own"),), False)
        self.check(conflicts, (), False)
        self.check(conflicts, ((0, "own"), (2, "own"), (4, "own")), False)

    def test_twice_and_in_another_order(self):
        conflicts = [(0, 1), (2, 3)]
        self.check(conflicts, ((0, "own"), (0, "own"), (2, "own")), False)
        self.check(conflicts, ((0, "own"), (2, "own"), (2, "own")), False)
        self.check(conflicts, ((2, "own"), (0, "own")), False)
        self.check([(1, 1), (2, 2)], ((1, "shipped"), (1, "own"), (2, "own")), False)
        self.check([(1, 1), (2, 2)], ((1, "own"), (1, "shipped"), (2, "own")), True)

    def test_claims_of_other_conflicts(self):
        conflicts = [(0, 1), (2, 3)]
        for claim in [(1, "own"), (0, "shipped"), (3, "own"), (2, "shipped"), (5, "own"), (-1, "own"), (12, "shipped")]:
            self.check(conflicts, tuple(sorted([(0, "own"), (2, "own"), claim])), False)
        self.check([], ((0, "own"),), False)

    def test_wrong_kinds(self):
        conflicts = [(0, 1), (1, 0)]
        self.check(conflicts, ((0, "own"), (1, "own")), True)
        for thing in [
            ((0, "own"), (True, "own")), ((False, "own"), (1, "own")), ((False, "own"), (True, "own")),
            [(0, "own"), (1, "own")], ([0, "own"], [1, "own"]), ((0, "own"), [1, "own"]), ((0, "own"), ("1", "own")),
            ((0, "own"), (1, "Own")), ((0, "own"), (1, "own", "own")), ((0, "own"), (1,)), ((0, "own"), 1),
            ((0, "own"), "own"), ((0, "own"), None), ((0, "own"), ()), ((0, "own"), (1, ["own"])), (0, "own"),
            (((0, "own"), (1, "own")),), ((0, "own"), (1, None)), ((0, "own"), (None, "own")), ((0, 1), (1, 0)),
            ((0, "own"), (1, "own"), None), ((0, "own"), ((1,), "own")), ("own", 0), ((0, "own"), ("own", 1)),
        ]:
            self.check(conflicts, thing, False)

    def test_any_object(self):
        for conflicts in [[(0, 1)], PATH, FULL]:
            for thing in NO_STRINGS + ODD_STRINGS:
                self.check(conflicts, thing, False)
        for thing in NO_STRINGS + ODD_STRINGS:
            self.check([], thing, thing == ())


class IsMatchingTest(unittest.TestCase):
    def check(self, conflicts, thing, answer):
        with self.subTest(conflicts=conflicts, thing=thing):
            self.assertIs(is_matching(conflicts, thing), answer)

    def test_every_choice_of_conflicts(self):
        for conflicts in [[], [(1, 1)], PATH, [(1, 0), (0, 1), (1, 0)], [(x, y) for x in range(3) for y in range(3)]]:
            right = set(matchings(conflicts))
            for size in range(len(set(conflicts)) + 1):
                for chosen in itertools.combinations(sorted(set(conflicts)), size):
                    self.check(conflicts, chosen, chosen in right)

    def test_any_size(self):
        diagonal = tuple((x, x) for x in range(12))
        for size in range(13):
            self.check(FULL, diagonal[:size], True)
            self.check(FULL, diagonal[size:], True)

    def test_the_same_claim(self):
        self.check(FULL, ((0, 1), (0, 2)), False)
        self.check(FULL, ((0, 1), (2, 1)), False)
        self.check(FULL, ((0, 1), (1, 0)), True)
        self.check(FULL, ((0, 1), (1, 2), (2, 0)), True)
        self.check(FULL, ((0, 1), (1, 2), (2, 1)), False)

    def test_twice_and_in_another_order(self):
        self.check(FULL, ((0, 1), (0, 1)), False)
        self.check(FULL, ((1, 0), (0, 1)), False)
        self.check([(0, 1), (0, 1)], ((0, 1), (0, 1)), False)

    def test_other_conflicts(self):
        self.check([(0, 1), (2, 3)], ((0, 3),), False)
        self.check([(0, 1), (2, 3)], ((1, 0),), False)
        self.check([(0, 1), (2, 3)], ((0, 1), (2, 3), (4, 5)), False)
        self.check([(0, 1)], ((12, 12),), False)
        self.check([], ((0, 0),), False)

    def test_wrong_kinds(self):
        conflicts = [(0, 1), (1, 0)]
        self.check(conflicts, ((0, 1), (1, 0)), True)
        for thing in [
            ((0, True), (1, 0)), ((0, 1), (True, 0)), ((False, 1), (1, 0)), ((0, 1), (1, False)), ((False, True),),
            [(0, 1), (1, 0)], ([0, 1], [1, 0]), ((0, 1), [1, 0]), [[0, 1]], ((0, 1), (1, "0")), ((0, 1), (1, None)),
            ((0, 1), (1,)), ((0, 1), (1, 0, 0)), ((0, 1), 1), ((0, 1), None), (0, 1), (((0, 1), (1, 0)),), ((0, "own"),),
            ((0, 1), "10"), ((0, 1), ()), ((0, 1), (1, [0])), ((0, 1), ((1, 0),)),
        ]:
            self.check(conflicts, thing, False)

    def test_any_object(self):
        for conflicts in [[], [(0, 1)], PATH, FULL]:
            for thing in NO_STRINGS + ODD_STRINGS:
                self.check(conflicts, thing, thing == ())


if __name__ == "__main__":
    unittest.main()
