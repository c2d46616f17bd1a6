"""Grounds, head rows, the standstill and its papers: promises 14 to 17, and what 2, 3 and 5 say of them."""

import inspect
import itertools
import unittest

import ringed
from deltahouse.errors import TooMuch
from deltahouse.rings import grounds, head_of, paper_of, standstill
from ringed import PATHS, RINGS, ROUND, chain, copied, lone, spoiled, steps_round, walk_paper
from samples import GREAT, check_refused, seeds


def numbers(count, start=0):
    return [(number,) for number in range(start, start + count)]


class Interface(unittest.TestCase):
    def test_names_and_arguments(self):
        for function, arguments in [
            (head_of, ["rule", "rows"]), (grounds, ["rules", "told"]),
            (standstill, ["rings", "rules", "given"]), (paper_of, ["rings", "rules", "given"]),
        ]:
            with self.subTest(function=function.__name__):
                self.assertEqual(list(inspect.signature(function).parameters), arguments)


class HeadRows(unittest.TestCase):
    def check_head(self, sources, places, rows, row):
        told = head_of(("rule", "r", sources, (), places), rows)
        self.assertIs(type(told), tuple)
        self.assertEqual(told, row)

    def test_of_one_source(self):
        self.check_head(("a",), (0,), [(7,)], (7,))
        self.check_head(("a",), (2, 0), [(7, 8, 9)], (9, 7))
        self.check_head(("a",), (1, 1, 1, 0), [(7, 8)], (8, 8, 8, 7))

    def test_of_two_sources_the_second_row_goes_on_behind_the_first(self):
        self.check_head(("a", "b"), (0, 1), [(7,), (8,)], (7, 8))
        self.check_head(("a", "b"), (3, 0, 2), [(1, 2), (3, 4)], (4, 1, 3))
        self.check_head(("a", "a"), (2, 2), [(1, 2), (3, 4)], (3, 3))
        self.check_head(("a", "b"), (1,), [(5,), (6, 7)], (6,))
        self.check_head(("a", "b"), (2,), [(5, 6), (7,)], (7,))

    def test_rows_of_sixteen_numbers_together(self):
        one, other = tuple(range(8)), tuple(range(8, 16))
        self.check_head(("a", "b"), (15, 8, 7, 0), [one, other], (15, 8, 7, 0))
        self.check_head(("a", "b"), (15, 14, 13, 12, 11, 10, 9, 8), [one, other], (15, 14, 13, 12, 11, 10, 9, 8))
        self.check_head(("a", "b"), tuple(range(4, 12)), [one, other], tuple(range(4, 12)))

    def test_great_numbers_and_handed_in_stays(self):
        rows = [(GREAT, -GREAT), (0, -1)]
        self.check_head(("a", "b"), (1, 0, 3), rows, (-GREAT, GREAT, -1))
        self.assertEqual(rows, [(GREAT, -GREAT), (0, -1)])


class Grounds(unittest.TestCase):
    def check(self, rules, told, expected):
        found = grounds(rules, told)
        self.assertEqual(found, expected)
        self.assertIs(type(found), list)
        for ground in found:
            self.assertIs(type(ground), tuple)
            self.assertIs(type(ground[0]), int)
            self.assertIs(type(ground[1]), list)
            self.assertTrue(all(type(row) is tuple for row in ground[1]))

    def test_rules_of_one_source(self):
        rule = ("rule", "r", ("a",), (), (0,))
        self.check([rule], [("a", [(1, 2), (1, 3)])], [(0, [(1, 2)]), (0, [(1, 3)])])
        self.check([rule, rule], [("a", [(1,), (2,)])],
                   [(0, [(1,)]), (0, [(2,)]), (1, [(1,)]), (1, [(2,)])])

    def test_rules_of_two_sources_by_first_rows_and_then_by_second_ones(self):
        rule = ("rule", "r", ("b", "a"), ((0, 1),), (0,))
        self.check([rule], [("a", [(1, 1), (2, 1), (3, 2)]), ("b", [(1, 9), (2, 8), (2, 9), (4, 4)])],
                   [(0, [(1, 9), (1, 1)]), (0, [(1, 9), (2, 1)]), (0, [(2, 8), (3, 2)]), (0, [(2, 9), (3, 2)])])

    def test_every_pair_must_agree(self):
        told = [("a", [(1, 1), (1, 2), (2, 2)]), ("b", [(1, 1), (2, 1), (2, 2)])]
        self.check([("rule", "r", ("a", "b"), ((0, 0), (1, 1)), (0,))], told,
                   [(0, [(1, 1), (1, 1)]), (0, [(2, 2), (2, 2)])])
        self.check([("rule", "r", ("a", "b"), ((0, 1), (1, 0)), (0,))], told,
                   [(0, [(1, 1), (1, 1)]), (0, [(1, 2), (2, 1)]), (0, [(2, 2), (2, 2)])])
        self.check([("rule", "r", ("a", "b"), ((0, 0), (0, 1), (0, 0)), (0,))], told,
                   [(0, [(1, 1), (1, 1)]), (0, [(1, 2), (1, 1)]), (0, [(2, 2), (2, 2)])])

    def test_by_no_pairs_all_rows_agree(self):
        self.check([("rule", "r", ("a", "b"), (), (0,))], [("b", [(5, 5), (6, 6)]), ("a", [(1,), (2,)])],
                   [(0, [(1,), (5, 5)]), (0, [(1,), (6, 6)]), (0, [(2,), (5, 5)]), (0, [(2,), (6, 6)])])

    def test_the_same_name_as_both_sources(self):
        self.check([("rule", "r", ("a", "a"), (), (0,))], [("a", [(1,), (2,)])],
                   [(0, [(1,), (1,)]), (0, [(1,), (2,)]), (0, [(2,), (1,)]), (0, [(2,), (2,)])])
        self.check([("rule", "r", ("a", "a"), ((1, 0),), (0,))], [("a", [(1, 2), (2, 1), (3, 3)])],
                   [(0, [(1, 2), (2, 1)]), (0, [(2, 1), (1, 2)]), (0, [(3, 3), (3, 3)])])

    def test_rings_are_names_like_others_here(self):
        self.check(PATHS, [("path", [(1, 2), (5, 6)]), ("edge", [(2, 3)])], [(0, [(2, 3)]), (1, [(1, 2), (2, 3)])])
        self.check([("rule", "r", ("r",), (), (0,))], [("r", [(4,)])], [(0, [(4,)])])

    def test_names_without_rows(self):
        one, two = ("rule", "r", ("a",), (), (0,)), ("rule", "r", ("a", "b"), (), (0,))
        for told in [[], [("a", [])], [("b", [(1,)])], [("a", []), ("b", [(1,)])], [("z", [(1,)])]]:
            self.check([one, two], told, [])
        self.check([two, one], [("a", [(1,)]), ("b", [])], [(1, [(1,)])])
        self.check([two, one], [("a", [(1,)])], [(1, [(1,)])])
        self.check([], [("a", [(1,)])], [])
        self.check([], [], [])

    def test_rows_with_the_same_head_row_are_grounds_each(self):
        self.check([("rule", "r", ("a",), (), (0, 0))], [("a", [(1, 1), (1, 2), (1, 3)])],
                   [(0, [(1, 1)]), (0, [(1, 2)]), (0, [(1, 3)])])

    def test_by_numbers_first_and_as_numbers(self):
        rules = [("rule", "r", ("b",), (), (0,))] * 6 + [("rule", "r", ("a",), (), (0,))] * 6
        self.check(rules, [("a", [(-2,), (10,)]), ("b", [(9,)])],
                   [(number, [(9,)]) for number in range(6)]
                   + [(number, [(row,)]) for number in range(6, 12) for row in (-2, 10)])

    def test_great_numbers_and_wide_rows(self):
        one, other = (GREAT,) * 8, (-GREAT,) * 7 + (GREAT,)
        self.check([("rule", "r", ("a", "b"), ((7, 7),), (0, 15))], [("a", [one]), ("b", [other])], [(0, [one, other])])
        self.check([("rule", "r", ("a", "b"), ((7, 6),), (0, 15))], [("a", [one]), ("b", [other])], [])

    def test_against_another_reckoning(self):
        found, refused = 0, 0
        for source in seeds(300):
            rules = ringed.random_rules(source)
            told = [(name, ringed.random_rows(source, width, source.choice([0, 4, 8, 60])))
                    for name, width in source.sample(sorted(ringed.WIDTHS_OF.items()), source.randint(0, 7))]
            expected = ringed.grounds(rules, told)
            self.assertEqual(len(expected), len({(number, tuple(rows)) for number, rows in expected}))
            if len(expected) > 400:
                check_refused(self, TooMuch, grounds, rules, told)
                refused += 1
            else:
                self.check(rules, told, expected)
                found += bool(expected)
        self.assertGreater(found, 150)
        self.assertGreater(refused, 2)


class TooManyGrounds(unittest.TestCase):
    def check_bound(self, rules, allowed, beyond):
        self.assertEqual(len(grounds(rules, allowed)), 400)
        check_refused(self, TooMuch, grounds, rules, beyond)

    def test_of_one_rule(self):
        rule = ("rule", "r", ("a",), (), (0,))
        self.check_bound([rule], [("a", numbers(400))], [("a", numbers(401))])

    def test_of_a_rule_of_two_sources(self):
        rule = ("rule", "r", ("a", "b"), (), (0,))
        self.check_bound([rule], [("a", numbers(20)), ("b", numbers(20))], [("a", numbers(20)), ("b", numbers(21))])
        self.check_bound([rule], [("a", numbers(400)), ("b", numbers(1))], [("a", numbers(401)), ("b", numbers(1))])
        self.check_bound([rule], [("b", numbers(400)), ("a", numbers(1))], [("b", numbers(401)), ("a", numbers(1))])
        self.check_bound([("rule", "r", ("a", "a"), (), (0,))], [("a", numbers(20))], [("a", numbers(21))])

    def test_of_all_rules_together(self):
        one, two = ("rule", "r", ("a",), (), (0,)), ("rule", "s", ("b", "b"), ((0, 0),), (1, 0))
        self.check_bound([one] * 400, [("a", numbers(1))], [("a", numbers(2))])
        self.check_bound([one, two], [("a", numbers(150)), ("b", numbers(250))],
                         [("a", numbers(150)), ("b", numbers(251))])
        self.check_bound([one, two], [("a", numbers(150)), ("b", numbers(250))],
                         [("a", numbers(151)), ("b", numbers(250))])

    def test_of_many_grounds_with_the_same_head_row(self):
        rule = ("rule", "r", ("a",), (), (0,))
        self.check_bound([rule], [("a", [(1, number) for number in range(400)])],
                         [("a", [(1, number) for number in range(401)])])

    def test_rows_that_ground_nothing_are_not_counted(self):
        rule = ("rule", "r", ("a", "b"), ((0, 0),), (0,))
        self.assertEqual(grounds([rule], [("a", numbers(1000)), ("b", numbers(1000, 1000)), ("c", numbers(1000))]), [])
        self.check_bound([rule], [("a", numbers(1000)), ("b", numbers(1000, 600))],
                         [("a", numbers(1000)), ("b", numbers(1000, 599))])

    def test_millions_of_grounds_are_refused_before_they_are_listed(self):
        rule = ("rule", "r", ("a", "b"), (), (0,))
        told = [("a", numbers(1000)), ("b", numbers(1000))]
        check_refused(self, TooMuch, grounds, [rule] * 50, told)
        check_refused(self, TooMuch, standstill, ["r"], [rule] * 50, told)


def at_the_bound():
    """Of PATHS: four hundred grounds in the standstill, and four hundred and one."""
    allowed = [("edge", chain(27) + lone(22))]
    beyond = [("edge", chain(27) + lone(23))]
    return allowed, beyond


class Standstill(unittest.TestCase):
    def check(self, rings, rules, given, expected):
        told = standstill(rings, rules, given)
        self.assertEqual(told, expected)
        self.assertIs(type(told), list)
        for entry in told:
            self.assertIs(type(entry), tuple)
            self.assertIs(type(entry[1]), list)
            self.assertTrue(all(type(row) is tuple for row in entry[1]))
        walk_paper(self, paper_of(rings, rules, given), rules, given, expected)

    def test_a_rule_of_one_source(self):
        self.check(["r"], [("rule", "r", ("a",), (), (1,))], [("a", [(1, 9), (2, 5), (3, 9)])], [("r", [(5,), (9,)])])

    def test_a_rule_of_two_sources(self):
        self.check(["r"], [("rule", "r", ("a", "b"), ((1, 0),), (0, 3))],
                   [("a", [(1, 2), (5, 2), (7, 8)]), ("b", [(2, 0), (2, 1)])],
                   [("r", [(1, 0), (1, 1), (5, 0), (5, 1)])])
        self.check(["r"], [("rule", "r", ("a", "b"), (), (1, 0))], [("a", [(1,), (2,)]), ("b", [(8,), (9,)])],
                   [("r", [(8, 1), (8, 2), (9, 1), (9, 2)])])

    def test_a_ring_that_asks_for_itself(self):
        self.check(["path"], PATHS, [("edge", chain(3))], [("path", [(0, 1), (0, 2), (0, 3), (1, 2), (1, 3), (2, 3)])])
        self.check(["path"], PATHS, [("edge", [(0, 1), (1, 0)])], [("path", [(0, 0), (0, 1), (1, 0), (1, 1)])])
        self.check(["path"], PATHS, [("edge", [(4, 4)])], [("path", [(4, 4)])])

    def test_the_ring_as_both_sources(self):
        rules = [PATHS[0], ("rule", "path", ("path", "path"), ((1, 0),), (0, 3))]
        for edges in [chain(5), steps_round(5), chain(3) + chain(2, 9), [(2, 2)]]:
            given = [("edge", edges)]
            self.check(["path"], rules, given, ringed.still_or_none(["path"], PATHS, given))

    def test_what_grounds_only_itself_is_not_there(self):
        self.check(["r"], [("rule", "r", ("r",), (), (0,))], [("a", [(1,)])], [("r", [])])
        self.check(["r", "s"], [("rule", "r", ("s",), (), (0,)), ("rule", "s", ("r",), (), (0,))], [("a", [(1,)])],
                   [("r", []), ("s", [])])
        self.check(["r"], ROUND, [("step", steps_round(60))], [("r", [])])

    def test_rings_that_ask_for_each_other(self):
        rules = [
            ("rule", "even", ("zero",), (), (0,)),
            ("rule", "odd", ("even", "next"), ((0, 0),), (2,)),
            ("rule", "even", ("odd", "next"), ((0, 0),), (2,)),
        ]
        given = [("zero", [(0,)]), ("next", chain(7))]
        even, odd = ("even", [(0,), (2,), (4,), (6,)]), ("odd", [(1,), (3,), (5,), (7,)])
        self.check(["odd", "even"], rules, given, [odd, even])
        self.check(["even", "odd"], rules, given, [even, odd])
        self.check(["even", "odd"], rules, [("next", chain(7))], [("even", []), ("odd", [])])

    def test_rings_of_several_widths(self):
        rules = [
            ("rule", "wide", ("one", "one"), (), (0, 1, 0, 1, 0, 1, 0, 1)),
            ("rule", "last", ("wide", "wide"), ((1, 0),), (0, 15)),
            ("rule", "one", ("a",), (), (0,)),
        ]
        self.check(["last", "one", "wide"], rules, [("a", [(1, 5), (2, 5)])],
                   [("last", [(1, 1), (1, 2), (2, 1), (2, 2)]), ("one", [(1,), (2,)]),
                    ("wide", [(1, 1) * 4, (1, 2) * 4, (2, 1) * 4, (2, 2) * 4])])

    def test_a_ring_without_rules_and_no_rules_at_all(self):
        self.check(["s", "r", "t"], [("rule", "r", ("a",), (), (0,))], [("a", [(1,)])],
                   [("s", []), ("r", [(1,)]), ("t", [])])
        self.check(["s", "r"], [("rule", "r", ("s",), (), (0,))], [("a", [(1,)])], [("s", []), ("r", [])])
        self.check(["s", "r"], [], [("a", [(1,)])], [("s", []), ("r", [])])
        self.check([], [], [("a", [(1,)])], [])
        self.check([], [], [], [])

    def test_names_without_rows(self):
        rules = [("rule", "r", ("a",), (), (0,)), ("rule", "r", ("a", "b"), (), (1,))]
        for given in [[], [("a", [])], [("b", [(1,)])], [("b", [(1,)]), ("a", [])], [("z", [(1,)])]]:
            self.check(["r"], rules, given, [("r", [])])
        self.check(["r"], rules, [("a", [(1,)]), ("b", [])], [("r", [(1,)])])

    def test_in_the_order_of_the_rings(self):
        rules = [("rule", ring, ("a",), (), (0,)) for ring in "rst"]
        for rings in itertools.permutations("rst"):
            self.check(list(rings), rules, [("a", [(1,)])], [(ring, [(1,)]) for ring in rings])

    def test_rows_rise(self):
        rules = [("rule", "r", ("a",), (), (1, 0)), ("rule", "r", ("a",), (), (0, 1))]
        self.check(["r"], rules, [("a", [(-5, 7), (0, -9), (10, 2)])],
                   [("r", [(-9, 0), (-5, 7), (0, -9), (2, 10), (7, -5), (10, 2)])])

    def test_great_numbers(self):
        given = [("edge", [(-GREAT, GREAT), (GREAT, GREAT - 1)])]
        self.check(["path"], PATHS, given, [("path", [(-GREAT, GREAT - 1), (-GREAT, GREAT), (GREAT, GREAT - 1)])])

    def test_a_round_of_sixty(self):
        given = [("in", [(17,)]), ("step", steps_round(60))]
        self.check(["r"], ROUND, given, [("r", numbers(60))])

    def test_a_round_of_sixty_rings(self):
        rings = [one + other for one in "abcdef" for other in "ghijklmnop"]
        rules = [("rule", ring, (rings[turn - 1],), (), (0,)) for turn, ring in enumerate(rings)]
        self.check(rings, rules, [("in", [(3,)])], [(ring, []) for ring in rings])
        rules.append(("rule", rings[31], ("in",), (), (0,)))
        self.check(rings, rules, [("in", [(3,), (4,)])], [(ring, [(3,), (4,)]) for ring in rings])

    def test_a_long_chain(self):
        rules = [("rule", "r", ("in",), (), (0,)), ("rule", "r", ("r", "step"), ((0, 0),), (2,))]
        self.check(["r"], rules, [("in", [(0,)]), ("step", chain(399))], [("r", numbers(400))])
        check_refused(self, TooMuch, standstill, ["r"], rules, [("in", [(0,)]), ("step", chain(400))])

    def test_against_another_reckoning(self):
        found, refused = 0, 0
        for source in seeds(1000):
            rules, given = ringed.random_rules(source), ringed.random_given(source)
            expected = ringed.still_or_none(RINGS, rules, given)
            if expected is None:
                check_refused(self, TooMuch, standstill, RINGS, rules, given)
                check_refused(self, TooMuch, paper_of, RINGS, rules, given)
                refused += 1
            else:
                self.check(RINGS, rules, given, expected)
                found += any(rows for ring, rows in expected)
        self.assertGreater(found, 400)
        self.assertGreater(refused, 20)


class Fewest(unittest.TestCase):
    """By the words of 16 alone: of all rows with which the rules stand still, what is in all of them."""

    RINGS = ["p", "q"]
    ROWS = [(0,), (1,), (2,)]

    def every_choice(self):
        choices = [[row for row, kept in zip(self.ROWS, signs) if kept]
                   for signs in itertools.product([False, True], repeat=3)]
        return [[("p", one), ("q", other)] for one in choices for other in choices]

    def small_rule(self, source):
        widths = {"a": 1, "e": 2, "p": 1, "q": 1}
        sources = tuple(source.choice(sorted(widths)) for turn in range(source.choice([1, 2])))
        pairs = ()
        if len(sources) == 2:
            pairs = tuple(tuple(source.randrange(widths[name]) for name in sources)
                          for turn in range(source.randint(0, 2)))
        places = (source.randrange(sum(widths[name] for name in sources)),)
        return ("rule", source.choice(self.RINGS), sources, pairs, places)

    def test_what_is_in_all_that_stand_still(self):
        for source in seeds(80):
            rules = [self.small_rule(source) for turn in range(source.randint(1, 5))]
            given = [("a", source.sample(self.ROWS, source.randint(0, 2))), ("e", ringed.random_rows(source, 2, 3, 2))]
            given[0][1].sort()
            still = [choice for choice in self.every_choice() if ringed.stand_still(rules, given + choice)]
            told = standstill(self.RINGS, rules, given)
            self.assertIn(told, still)
            for turn, ring in enumerate(self.RINGS):
                in_all = set(self.ROWS).intersection(*[set(choice[turn][1]) for choice in still])
                self.assertEqual(told[turn], (ring, sorted(in_all)))


class TooManyInTheStandstill(unittest.TestCase):
    def test_four_hundred_and_four_hundred_and_one(self):
        allowed, beyond = at_the_bound()
        told = standstill(["path"], PATHS, allowed)
        self.assertEqual(len(ringed.grounds(PATHS, allowed + told)), 400)
        self.assertEqual(told, ringed.still_or_none(["path"], PATHS, allowed))
        walk_paper(self, paper_of(["path"], PATHS, allowed), PATHS, allowed, told)
        for ask in (standstill, paper_of):
            check_refused(self, TooMuch, ask, ["path"], PATHS, beyond)

    def test_many_grounds_with_the_same_head_row(self):
        rules = [("rule", "r", ("a",), (), (0,)), ("rule", "r", ("a", "r"), ((0, 0),), (0,))]
        given = [("a", [(1, number) for number in range(200)])]
        self.assertEqual(standstill(["r"], rules, given), [("r", [(1,)])])
        walk_paper(self, paper_of(["r"], rules, given), rules, given, [("r", [(1,)])])
        given = [("a", [(1, number) for number in range(201)])]
        for ask in (standstill, paper_of):
            check_refused(self, TooMuch, ask, ["r"], rules, given)

    def test_grounds_that_give_no_new_row_are_counted(self):
        # Each row of r grounds itself once more: two hundred rows, four hundred grounds.
        rules = [("rule", "r", ("a",), (), (0,)), ("rule", "r", ("r",), (), (0,))]
        self.assertEqual(standstill(["r"], rules, [("a", numbers(200))]), [("r", numbers(200))])
        for ask in (standstill, paper_of):
            check_refused(self, TooMuch, ask, ["r"], rules, [("a", numbers(201))])

    def test_of_all_rules_and_rings_together(self):
        rules = [("rule", "r", ("a",), (), (0,)), ("rule", "s", ("b",), (), (0,))]
        self.assertEqual(standstill(["s", "r"], rules, [("a", numbers(150)), ("b", numbers(250))]),
                         [("s", numbers(250)), ("r", numbers(150))])
        for ask in (standstill, paper_of):
            check_refused(self, TooMuch, ask, ["s", "r"], rules, [("a", numbers(151)), ("b", numbers(250))])

    def test_rows_without_end_are_refused(self):
        rules = [
            ("rule", "r", ("a", "a"), (), (0, 0, 0, 0, 1, 1, 1, 1)),
            ("rule", "r", ("r", "r"), (), (0, 9, 2, 11, 4, 13, 6, 15)),
            ("rule", "r", ("r",), (), (1, 2, 3, 4, 5, 6, 7, 0)),
        ]
        for ask in (standstill, paper_of):
            check_refused(self, TooMuch, ask, ["r"], rules, [("a", numbers(9))])


class Papers(unittest.TestCase):
    def test_of_one_way_alone(self):
        self.assertEqual(paper_of(["r"], ROUND, [("in", [(0,)]), ("step", chain(3))]), [
            ("r", (0,), 0, [(0,)]), ("r", (1,), 1, [(0,), (0, 1)]),
            ("r", (2,), 1, [(1,), (1, 2)]), ("r", (3,), 1, [(2,), (2, 3)]),
        ])

    def test_of_nothing(self):
        for rings, rules, given in [([], [], []), (["r"], [], []), (["path"], PATHS, []),
                                    (["r"], ROUND, [("step", steps_round(5))])]:
            self.assertEqual(paper_of(rings, rules, given), [])

    def test_a_row_that_could_ground_itself_has_a_ground_that_ends(self):
        rules = [
            ("rule", "r", ("r",), (), (0,)), ("rule", "r", ("s",), (), (0,)), ("rule", "s", ("r",), (), (0,)),
            ("rule", "s", ("in",), (), (0,)),
        ]
        self.assertEqual(paper_of(["r", "s"], rules, [("in", [(1,)])]),
                         [("s", (1,), 3, [(1,)]), ("r", (1,), 1, [(1,)])])

    def test_the_number_is_that_of_the_very_rule(self):
        rules = [("rule", "s", ("a",), (), (0,)), ("rule", "r", ("b",), (), (0,)), ("rule", "r", ("a",), (), (0,))]
        paper = paper_of(["r", "s"], rules, [("a", [(1,)])])
        self.assertEqual(sorted(paper), [("r", (1,), 2, [(1,)]), ("s", (1,), 0, [(1,)])])


class AskersOwn(unittest.TestCase):
    """Nothing handed in is changed, and what is told stays whatever is done later."""

    def samples(self):
        told = [(["path"], list(PATHS), [("edge", chain(4)), ("other", [(1,)])]),
                (["path"], list(PATHS), [("edge", steps_round(4))]), (["r"], list(ROUND), [("in", [(0,)])])]
        for source in seeds(40):
            rules, given = ringed.random_rules(source), ringed.random_given(source)
            if ringed.still_or_none(RINGS, rules, given) is not None:
                told.append((list(RINGS), rules, given))
        return told

    def calls(self, rings, rules, given):
        return [lambda: standstill(rings, rules, given), lambda: paper_of(rings, rules, given),
                lambda: grounds(rules, given)]

    def test_nothing_handed_in_is_changed(self):
        for handed in self.samples():
            before = copied(handed)
            for call in self.calls(*handed):
                call()
                self.assertEqual(handed, before)

    def test_nor_by_a_refusal(self):
        handed = (["path"], list(PATHS), [("edge", chain(40))])
        before = copied(handed)
        check_refused(self, TooMuch, standstill, *handed)
        check_refused(self, TooMuch, paper_of, *handed)
        check_refused(self, TooMuch, grounds, [PATHS[0]], [("edge", chain(500))])
        self.assertEqual(handed, before)

    def test_what_was_told_stays_when_what_was_handed_in_is_changed(self):
        for handed in self.samples():
            told = [call() for call in self.calls(*handed)]
            before = copied(told)
            for thing in handed:
                spoiled(thing)
            self.assertEqual(told, before)

    def test_two_answers_share_nothing(self):
        for handed in self.samples():
            here, there = ([call() for call in self.calls(*handed)] for turn in range(2))
            before = copied(there)
            self.assertEqual(here, there)
            spoiled(here)
            self.assertEqual(there, before)
            self.assertEqual([call() for call in self.calls(*handed)], before)

    def test_the_parts_of_one_answer_share_nothing(self):
        for handed in self.samples():
            for call in self.calls(*handed):
                told = call()
                for turn in range(len(told)):
                    others = copied(told[:turn] + told[turn + 1:])
                    spoiled(told[turn])
                    self.assertEqual(told[:turn] + told[turn + 1:], others)
                    told[turn] = None


if __name__ == "__main__":
    unittest.main()
