"""Webs: every answer behind many steps, wrong numbers, and what equal webs have in common."""

import unittest

from plain_webs import PlainWeb
from samples import ANY_VALUES, others, same
from stillmeant.errors import InvalidNumber, Untimed
from stillmeant.webs import Web


def joins(many):
    return [("join", reader, other) for reader in range(many) for other in range(many) if reader != other]


def stepped(web, step):
    if step[0] == "join":
        return web.joined(step[1], step[2])
    return web.grown(step[1], step[2])


def scattered(many, seed, length):
    """A long list of steps that is the same in each run."""
    steps = []
    for at in range(length):
        seed = (seed * 1103515245 + 12345) & 0x7FFFFFFF
        draw = seed >> 12
        row = (draw >> 1) % many
        if draw & 1:
            steps.append(("grow", row, f"label {at}"))
        else:
            steps.append(("join", row, (row + 1 + (draw >> 9) % (many - 1)) % many))
    return steps


class Answers(unittest.TestCase):
    """Each answer of webs against a web that keeps all its entries."""

    def check(self, web, plain):
        many = plain.many
        self.assertTrue(same(web.key, plain.key), (web.key, plain.key))
        self.assertEqual(web.many, many)
        self.assertIs(web.timed, plain.timed)
        kept = sum(len(plain.kept(row)) for row in range(many))
        self.assertEqual(len(web), kept)
        self.assertEqual(repr(web), f"Web({kept} kept)")
        for row in range(many):
            self.assertEqual(web.last(row), plain.last(row))
            self.assertEqual(web.tops(row), plain.tops(row))
            for other in range(many):
                self.assertIs(web.holds(row, other), plain.holds(row, other))
                self.assertEqual(web.common(row, other), plain.common(row, other))
                self.check_aged(web, plain, row, other)

    def check_aged(self, web, plain, reader, other):
        if plain.timed:
            self.assertEqual(web.aged(reader, other), plain.aged(reader, other))
        else:
            with self.assertRaises(Untimed):
                web.aged(reader, other)

    def walk(self, web, plain, depth):
        """Checks all webs behind all lists of so many steps, and that each one stays as it was."""
        self.check(web, plain)
        if depth == 0:
            return
        key = web.key
        grows = [("grow", row, f"{row} {len(plain.rows[row]) + 1}") for row in range(plain.many)]
        for step in grows + joins(plain.many):
            after = stepped(web, step)
            self.assertIsNot(after, web)
            self.assertEqual(web.key, key)
            self.walk(after, plain.step(step), depth - 1)
        self.check(web, plain)

    def test_all_short_histories_of_two_rows(self):
        self.walk(Web(2), PlainWeb(2, False), 5)

    def test_all_short_histories_of_two_timed_rows(self):
        self.walk(Web(2, timed=True), PlainWeb(2, True), 5)

    def test_all_short_histories_of_three_rows(self):
        self.walk(Web(3), PlainWeb(3, False), 3)

    def test_all_short_histories_of_three_timed_rows(self):
        self.walk(Web(3, timed=True), PlainWeb(3, True), 3)

    def test_long_histories(self):
        for many in (2, 3):
            for timed in (False, True):
                for seed in range(12):
                    self.check_long(many, timed, scattered(many, seed, 40))

    def check_long(self, many, timed, steps):
        web = Web(many, timed=timed)
        plain = PlainWeb(many, timed)
        elder = []
        for step in steps:
            elder.append((web, plain))
            web = stepped(web, step)
            plain = plain.step(step)
            self.check(web, plain)
        for web, plain in elder:
            self.check(web, plain)

    def test_joining_a_reader_with_itself_changes_nothing(self):
        for many in (2, 3):
            for timed in (False, True):
                web = Web(many, timed=timed)
                for step in scattered(many, 5, 20):
                    web = stepped(web, step)
                    for reader in range(many):
                        self.assertEqual(web.joined(reader, reader), web)
                        self.assertEqual(web.joined(reader, reader).key, web.key)


class Examples(unittest.TestCase):
    def test_an_empty_web(self):
        self.assertTrue(same(Web(2).key, (((0, 0), (0, 0)), ((), ()), ())))
        self.assertTrue(same(Web(3, timed=True).key, (((0,) * 3,) * 3, ((), (), ()), ())))
        for many in (2, 3):
            web = Web(many)
            self.assertEqual((web.many, web.timed, len(web), repr(web)), (many, False, 0, "Web(0 kept)"))
            for row in range(many):
                self.assertIsNone(web.last(row))
                self.assertEqual(web.tops(row), [])
                self.assertIs(web.holds(0, row), True)
            self.assertEqual(web.common(0, 1), [])

    def test_the_example_of_the_document(self):
        web = Web(2, timed=True).grown(0, "a").grown(1, "b").joined(0, 1).grown(0, "c")
        self.assertEqual(web.tops(0), [(0, "c")])
        self.assertEqual(web.common(0, 1), [(1, "b")])
        self.assertIs(web.holds(0, 1), True)
        self.assertIs(web.holds(1, 0), False)
        key = (((1, 1), (0, 1)), ((("c", (1, 1)),), (("b", (0, 1)),)), ((1, 0), (0, 0)))
        self.assertTrue(same(web.key, key))
        self.assertEqual(repr(web), "Web(2 kept)")

    def test_common_tops_by_rows_and_by_age(self):
        web = Web(2, timed=True).grown(1, "late row").grown(0, "early row")
        web = web.joined(0, 1).joined(1, 0)
        self.assertEqual(web.common(0, 1), [(0, "early row"), (1, "late row")])
        self.assertEqual(web.aged(0, 1), [(1, "late row"), (0, "early row")])
        self.assertEqual(web.key[2], ((1, 0), (0, 0)))

    def test_one_kept_entry(self):
        self.assertEqual(repr(Web(2).grown(1, "x")), "Web(1 kept)")

    def test_an_entry_that_only_a_later_one_knows_is_not_kept(self):
        web = Web(2).grown(0, "a").grown(0, "b")
        self.assertEqual(web.key, (((1, 0), (0, 0)), ((("b", (1, 0)),), ()), ()))
        held = Web(2).grown(0, "a").joined(1, 0).grown(0, "b")
        self.assertEqual(held.key, (((2, 0), (1, 0)), ((("a", (1, 0)), ("b", (2, 0))), ()), ()))
        self.assertEqual(held.common(0, 1), [(0, "a")])
        self.assertEqual(held.tops(1), [(0, "a")])

    def test_arguments_by_name(self):
        web = Web(many=2, timed=True).grown(row=0, label="a").joined(reader=1, other=0)
        self.assertEqual(web, Web(2, timed=True).grown(0, "a").joined(1, 0))
        self.assertEqual(web.tops(reader=1), [(0, "a")])
        self.assertEqual(web.common(reader=0, other=1), [(0, "a")])
        self.assertEqual(web.aged(reader=0, other=1), [(0, "a")])
        self.assertIs(web.grown(0, "b").holds(reader=1, row=0), False)
        self.assertEqual(web.last(row=0), "a")

    def test_timed_is_passed_by_name_only(self):
        with self.assertRaises(TypeError):
            Web(2, True)

    def test_returned_lists_are_new(self):
        web = Web(2, timed=True).grown(0, "a").joined(1, 0)
        for ask in [lambda: web.tops(0), lambda: web.common(0, 1), lambda: web.aged(0, 1)]:
            found = ask()
            found.clear()
            self.assertEqual(ask(), [(0, "a")])
            self.assertIsInstance(ask(), list)
            self.assertIsInstance(ask()[0], tuple)


class WrongNumbers(unittest.TestCase):
    def refuse(self, number, call, *values, **named):
        with self.assertRaises(InvalidNumber) as caught:
            call(*values, **named)
        self.assertIs(caught.exception.number, number)

    def test_wrong_numbers_of_rows(self):
        for value in others(2, 3):
            self.refuse(value, Web, value)
            self.refuse(value, Web, value, timed=True)
            self.refuse(value, Web, many=value)

    def test_one_wrong_number(self):
        for many in (2, 3):
            web = Web(many, timed=True).grown(0, "a").joined(1, 0)
            for value in others(*range(many)):
                self.refuse(value, web.tops, value)
                self.refuse(value, web.last, value)
                self.refuse(value, web.grown, value, "x")

    def test_the_first_of_two_wrong_numbers(self):
        for many in (2, 3):
            web = Web(many, timed=True).grown(0, "a").joined(1, 0)
            for method in (web.joined, web.common, web.aged, web.holds):
                for value in others(*range(many)):
                    self.refuse(value, method, value, 0)
                    self.refuse(value, method, 1, value)
                    self.refuse(value, method, value, many)
                    self.refuse(value, method, value, "other")

    def test_truths_are_no_readers(self):
        web = Web(2)
        self.refuse(True, web.tops, True)
        self.refuse(False, web.last, False)
        self.refuse(True, web.holds, 0, True)

    def test_untimed_goes_ahead(self):
        web = Web(2).grown(0, "a")
        for reader in ANY_VALUES:
            with self.assertRaises(Untimed):
                web.aged(reader, 0)
            with self.assertRaises(Untimed):
                web.aged(0, reader)

    def test_nothing_changes_behind_an_error(self):
        web = Web(2, timed=True).grown(0, "a")
        key = web.key
        for value in others(0, 1):
            for method in (web.joined, web.holds, web.grown):
                with self.assertRaises(InvalidNumber):
                    method(value, "x")
        self.assertEqual(web.key, key)


class Equality(unittest.TestCase):
    def test_webs_made_alike(self):
        for timed in (False, True):
            for many in (2, 3):
                one = Web(many, timed=timed)
                other = Web(many, timed=timed)
                for step in scattered(many, 3, 20):
                    one = stepped(one, step)
                    self.assertFalse(one == other and one.key != other.key)
                    other = stepped(other, step)
                    self.assertTrue(one == other)
                    self.assertFalse(one != other)

    def test_webs_made_otherwise(self):
        web = Web(2).grown(0, "a")
        unlike = [Web(2), Web(3), Web(3).grown(0, "a"), Web(2).grown(0, "b"), Web(2).grown(1, "a"),
                  web.joined(1, 0), web.grown(1, "a"), Web(2, timed=True).grown(0, "a")]
        for other in unlike:
            self.assertFalse(web == other)
            self.assertTrue(web != other)

    def test_timed_counts_also_without_entries(self):
        self.assertEqual(Web(2).key, Web(2, timed=True).key)
        self.assertFalse(Web(2) == Web(2, timed=True))
        self.assertFalse(Web(3, timed=True) == Web(3))

    def test_the_order_counts_if_the_web_is_timed(self):
        for timed in (False, True):
            start = Web(2, timed=timed)
            one = start.grown(0, "a").grown(1, "b")
            other = start.grown(1, "b").grown(0, "a")
            self.assertIs(one == other, not timed)

    def test_a_web_equals_nothing_else(self):
        for web in (Web(2), Web(3, timed=True), Web(2).grown(0, "a")):
            for value in ANY_VALUES + [web.key, repr(web), len(web), object()]:
                self.assertIs(web == value, False)
                self.assertIs(web != value, True)


class EqualKeys(unittest.TestCase):
    """Webs with equal keys, one of which had entries that are not kept any more."""

    def all_webs(self, many, timed, depth):
        """Pairs of a web and the number of all entries that it ever had, behind short lists of steps."""
        steps = [("grow", row, "x") for row in range(many)] + joins(many)
        found = [(Web(many, timed=timed), 0)]
        rows = list(found)
        for _ in range(depth):
            rows = [(stepped(web, step), made + (step[0] == "grow")) for web, made in rows for step in steps]
            found.extend(rows)
        return found

    def check_pair(self, one, other, many, timed, depth):
        self.assertTrue(one == other)
        self.assertEqual(one.key, other.key)
        for reader in range(many):
            self.assertEqual(one.tops(reader), other.tops(reader))
            for beside in range(many):
                self.assertEqual(one.common(reader, beside), other.common(reader, beside))
                self.assertEqual(one.holds(reader, beside), other.holds(reader, beside))
                if timed:
                    self.assertEqual(one.aged(reader, beside), other.aged(reader, beside))
        if depth > 0:
            for step in [("grow", row, "y") for row in range(many)] + joins(many):
                self.check_pair(stepped(one, step), stepped(other, step), many, timed, depth - 1)

    def check_all(self, many, timed, depth, further):
        first = {}
        pairs = 0
        for web, made in self.all_webs(many, timed, depth):
            if web.key not in first:
                first[web.key] = (web, made)
            elif made > first[web.key][1] and made > len(web):
                pairs += 1
                if pairs % 7 == 0:
                    self.check_pair(first[web.key][0], web, many, timed, further)
        self.assertGreater(pairs, 20)

    def test_two_rows(self):
        for timed in (False, True):
            self.check_all(2, timed, 5, 2)

    def test_three_rows(self):
        for timed in (False, True):
            self.check_all(3, timed, 3, 1)

    def test_one_pair(self):
        for timed in (False, True):
            one = Web(2, timed=timed).grown(0, "b").grown(1, "c")
            other = Web(2, timed=timed).grown(1, "c").grown(0, "a").grown(0, "b").grown(1, "c")
            self.assertEqual(len(other), 2)
            self.check_pair(one, other, 2, timed, 4)


if __name__ == "__main__":
    unittest.main()
