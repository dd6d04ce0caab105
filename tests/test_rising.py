"""[25]: the module rising."""

import unittest
from itertools import product

from fourread import rising
from fourread.errors import InvalidNumber, TooMany
from fourread.rising import broken_edges, least_changes, sorted_along, sorted_table
from fourread.tables import Table, distance
from tests.support import Case, NO_INTEGERS, dice_for, random_table, some_tables, words_of


def bits_at(table):
    return dict(zip(words_of(table.n), table.bits))


def raised(word, place):
    return word[:place] + (1,) + word[place + 1:]


def edges_by_words(table):
    """The broken edges, by the document's words."""
    bits = bits_at(table)
    edges = [(word, place) for word in bits for place in range(table.n) if word[place] == 0]
    return tuple(sorted(
        (word, place) for word, place in edges if bits[word] == 1 and bits[raised(word, place)] == 0
    ))


def sorted_by_words(table, place):
    """The bits of the table sorted along a place, by the document's words."""
    bits = bits_at(table)
    for word, at in edges_by_words(table):
        if at == place:
            bits[word], bits[raised(word, place)] = bits[raised(word, place)], bits[word]
    return tuple(bits[word] for word in words_of(table.n))


def all_tables(n):
    return [Table(n, bits) for bits in product((0, 1), repeat=2 ** n)]


def tables_to(n):
    """All tables to 3, some of the others up to n."""
    dice = dice_for("rising")
    found = [table for size in (1, 2, 3) for table in all_tables(size)]
    return found + [table for size in range(4, n + 1) for table in some_tables(dice, size)]


class InterfaceTest(Case):
    def test_names(self):
        self.assert_interface(rising, {
            "broken_edges": ["table"], "sorted_along": ["table", "place"], "sorted_table": ["table"],
            "least_changes": ["table"],
        })

    def test_arguments_by_name(self):
        table = Table(2, (1, 0, 1, 0))
        self.assert_exactly(broken_edges(table=table), (((0, 0), 1), ((1, 0), 1)))
        self.assert_bits(sorted_along(place=1, table=table), 2, (0, 1, 0, 1))
        self.assert_bits(sorted_table(table=table), 2, (0, 1, 0, 1))
        self.assert_exactly(least_changes(table=table), 2)


class BrokenEdgesTest(Case):
    def test_by_the_documents_words(self):
        for table in tables_to(8):
            self.assert_exactly(broken_edges(table), edges_by_words(table))

    def test_ten_bits(self):
        dice = dice_for("rising 10")
        for table in (random_table(dice, 10), Table(10, (1,) * 1023 + (0,)), Table(10, (0,) * 512 + (1,) * 512)):
            self.assert_exactly(broken_edges(table), edges_by_words(table))

    def test_examples(self):
        self.assert_exactly(broken_edges(Table(1, (1, 0))), (((0,), 0),))
        self.assert_exactly(broken_edges(Table(1, (0, 1))), ())
        self.assert_exactly(broken_edges(Table(2, (1, 0, 0, 0))), (((0, 0), 0), ((0, 0), 1)))
        self.assert_exactly(broken_edges(Table(2, (0, 1, 1, 0))), (((0, 1), 0), ((1, 0), 1)))
        self.assert_exactly(broken_edges(Table(2, (1, 1, 0, 0))), (((0, 0), 0), ((0, 1), 0)))
        self.assert_exactly(broken_edges(Table(3, (1,) * 8)), ())


class SortedAlongTest(Case):
    def test_each_place(self):
        for table in tables_to(7):
            kept = table.bits
            for place in range(table.n):
                self.assert_bits(sorted_along(table, place), table.n, sorted_by_words(table, place))
            self.assert_exactly(table.bits, kept)

    def test_ten_bits(self):
        table = random_table(dice_for("sorted 10"), 10)
        for place in (0, 4, 9):
            self.assert_bits(sorted_along(table, place), 10, sorted_by_words(table, place))

    def test_examples(self):
        table = Table(2, (1, 0, 0, 1))
        self.assert_bits(sorted_along(table, 0), 2, (0, 0, 1, 1))
        self.assert_bits(sorted_along(table, 1), 2, (0, 1, 0, 1))
        self.assert_bits(table, 2, (1, 0, 0, 1))

    def test_wrong_places(self):
        for n in range(1, 11):
            table = Table(n, (1, 0) * 2 ** (n - 1))
            for place in [-1, n, n + 1, -n, 10, 2 ** 70, *NO_INTEGERS]:
                self.assert_raises(InvalidNumber, {"value": place}, sorted_along, table, place)


class SortedTableTest(Case):
    def test_place_after_place(self):
        for table in tables_to(7):
            kept = table.bits
            wanted = table
            for place in range(table.n):
                wanted = Table(table.n, sorted_by_words(wanted, place))
            self.assert_bits(sorted_table(table), table.n, wanted.bits)
            self.assert_exactly(table.bits, kept)

    def test_the_order_of_the_places_counts(self):
        # Along the last place first it would come to another table.
        table = Table(2, (0, 1, 0, 0))
        self.assert_bits(sorted_table(table), 2, (0, 0, 0, 1))
        table = Table(2, (1, 0, 0, 0))
        self.assert_bits(sorted_table(table), 2, (0, 0, 0, 1))
        unlike = 0
        for table in all_tables(3):
            other = table
            for place in (2, 1, 0):
                other = Table(3, sorted_by_words(other, place))
            unlike += sorted_table(table) != other
        self.assertGreater(unlike, 10)

    def test_ten_bits(self):
        table = random_table(dice_for("sorted_table 10"), 10)
        self.assert_exactly(edges_by_words(sorted_table(table)), ())
        self.assert_exactly(sum(sorted_table(table).bits), sum(table.bits))


class LeastChangesTest(Case):
    def test_all_tables(self):
        for n in (1, 2, 3):
            rows = [table for table in all_tables(n) if edges_by_words(table) == ()]
            self.assertEqual(len(rows), {1: 3, 2: 6, 3: 20}[n])
            for table in all_tables(n):
                wanted = min(sum(left != right for left, right in zip(table.bits, row.bits)) for row in rows)
                self.assert_exactly(least_changes(table), wanted)

    def test_larger_tables(self):
        for n in range(4, 11):
            for bits in ((0,) * 2 ** n, (1, 0) * 2 ** (n - 1)):
                self.assert_raises(TooMany, {"what": "letters"}, least_changes, Table(n, bits))


class SentencesTest(Case):
    def test_sorted_along(self):
        for table in tables_to(7):
            many = [place for _, place in broken_edges(table)]
            for place in range(table.n):
                left = [at for _, at in broken_edges(sorted_along(table, place))]
                self.assert_exactly(left.count(place), 0)
                for at in range(table.n):
                    self.assertLessEqual(left.count(at), many.count(at))

    def test_sorted_table(self):
        for table in tables_to(8):
            found = sorted_table(table)
            self.assert_exactly(broken_edges(found), ())
            self.assert_exactly(sum(found.bits), sum(table.bits))
            self.assertLessEqual(distance(table, found), 2 * len(broken_edges(table)))

    def test_least_changes(self):
        for table in tables_to(3):
            self.assertLessEqual(least_changes(table), distance(table, sorted_table(table)))
            self.assertGreaterEqual(table.n * least_changes(table), len(broken_edges(table)))


if __name__ == "__main__":
    unittest.main()
