"""[3], [45], [47], [48], [49]: what must agree, and the document's example."""

import copy
import unittest

from heldnotes.badges import is_ring, is_slope, rates, ring, seldom, slope, worst, wrong
from heldnotes.books import Book
from heldnotes.clamps import device_clamp, joined
from heldnotes.comparing import alike, parting
from heldnotes.devices import Device
from heldnotes.standings import moves, row_to, standing_of, standings
from heldnotes.wishes import breaks, broken, closed, is_break, is_closed, least_idle
from tests.samples import example_book, mild_book, random_book, random_wish, seeded, with_rows
from tests.slow import slow_is_break

GONE = ("stand", ["gone"], [], ["none"])
READ = ("stand", ["show", "seen"], ["gone"], ["read"])
SEEN = ("none", "seen", "newer")


class ExampleTest(unittest.TestCase):

    def test_a_gone_notice_stays_gone(self):
        self.assertIsNone(breaks(example_book(), GONE))
        self.assertIs(is_closed(example_book(), GONE, closed(example_book(), GONE)), True)

    def test_a_show_behind_the_gone_of_its_number_does_nothing(self):
        book = example_book()
        standing = standing_of(book, [("gone", 1)])
        self.assertEqual(standing, ("none", "newest", ("gone",), False))
        self.assertIn(("newest", "show", ("none", "newest", ("gone", "show"), False), False, 0),
                      moves(book, standing))

    def test_a_seen_notice_is_read(self):
        self.assertIsNone(breaks(example_book(), READ))
        self.assertIs(is_closed(example_book(), READ, closed(example_book(), READ)), True)

    def test_without_the_row_for_seen_it_is_not(self):
        book = example_book().without([SEEN])
        row = breaks(book, READ)
        self.assertEqual([sort for sort, _ in row], ["seen", "show"])
        self.assertEqual(row[0][1], row[1][1])
        self.assertTrue(slow_is_break(book, READ, row))
        self.assertIsNone(closed(book, READ))
        self.assertEqual(broken(book, [GONE, READ]), [READ])

    def test_the_wishes_that_the_example_keeps(self):
        wishes = [("lower",), ("once",), ("quiet", ["show"]), ("quiet", ["seen"]), ("quiet", ["gone"]), GONE, READ]
        self.assertEqual(broken(example_book(), wishes + [("quiet", [])]), [("quiet", [])])

    def test_its_badge_is_right(self):
        book = example_book()
        self.assertIsNone(wrong(book))
        self.assertEqual((worst(book, 60), seldom(book, 0), rates(book)), ((0, 0), None, ((0, 1), (0, 1))))
        self.assertIs(is_ring(book, ring(book), (0, 1)), True)
        self.assertIs(is_slope(book, slope(book, (0, 1)), (0, 1)), True)
        self.assertIsNone(slope(book, (-1, 10 ** 12 - 1)))
        self.assertEqual(device_clamp(book, [("show", 1), ("show", 2), ("gone", 2)], 0, None), (0, 0, None))


class KeptTest(unittest.TestCase):
    """[47]"""

    def test_a_wish_is_kept_by_books_that_differ_in_states_to_which_no_row_comes(self):
        chance = seeded(80)
        kept = 0
        for _ in range(200):
            book = random_book(chance)
            led = {standing[0] for _, standing in standings(book)}
            left = [state for state in book.states() if state not in led]
            if not left:
                continue
            rows = {key: effect for key, effect in book.rows().items() if key[0] in led}
            for state in left:
                for sort in book.sorts():
                    rows[(state, sort, chance.choice(["newer", "same", "elder"]))] = (
                        chance.choice(book.states()), True, True, 9)
            worths = {state: book.worth(state) if state in led else 9 for state in book.states()}
            # Where nothing is ever held, a row for the same or an elder number may lead elsewhere.
            fewer = Book(sorted(led), book.sorts(), book.first(),
                         {key: effect for key, effect in book.rows().items() if {key[0], effect[0]} <= led})
            other = with_rows(book, rows, worths=worths)
            wishes = [random_wish(chance, fewer) for _ in range(6)]
            self.assertEqual(standings(other), standings(book))
            self.assertEqual(standings(fewer), standings(book))
            self.assertEqual(broken(other, wishes), broken(book, wishes))
            self.assertEqual(broken(fewer, wishes), broken(book, wishes))
            kept += len(wishes) - len(broken(book, wishes))
        self.assertGreater(kept, 20)


class OrderAloneTest(unittest.TestCase):
    """[45]"""

    def test_breaks_are_told_by_order_alone(self):
        chance = seeded(81)
        for _ in range(150):
            book = random_book(chance)
            row = [(chance.choice(book.sorts()), chance.randint(0, 4)) for _ in range(chance.randint(1, 8))]
            numbers = sorted(chance.sample(range(-10 ** 12 + 1, 10 ** 12), 5))
            other = [(sort, numbers[number]) for sort, number in row]
            wish = random_wish(chance, book)
            self.assertEqual(is_break(book, wish, row), is_break(book, wish, other))

    def test_standings_rings_badges_and_errors_too(self):
        chance = seeded(83)
        for _ in range(100):
            book = mild_book(chance)
            row = [(chance.choice(book.sorts()), chance.randint(0, 6)) for _ in range(40)]
            numbers = sorted(chance.sample(range(-10 ** 12 + 1, 10 ** 12), 7))
            one, other = Device(book), Device(book)
            for sort, number in row:
                self.assertEqual(one.take("k", sort, number), other.take("k", sort, numbers[number]))
                self.assertEqual(one.error(), other.error())
            self.assertEqual(standing_of(book, row),
                             standing_of(book, [(sort, numbers[number]) for sort, number in row]))


class ToldTest(unittest.TestCase):
    """[3]: what is told is the same each time, of the same kinds, and nobody else's."""

    def answers(self, book, wish, keys):
        """All that is told of a book."""
        table = closed(book, wish)
        mean = (rates(book) or ((0, 1), (0, 1)))[1]
        row = wrong(book) or []
        return [row, worst(book, 7), seldom(book, 4), mean, ring(book), ring(book, False), slope(book, mean),
                is_ring(book, ring(book), mean), is_slope(book, slope(book, mean), mean), joined([]),
                device_clamp(book, row, 0, None), standings(book), breaks(book, wish), table, broken(book, [wish, ["once"]]),
                least_idle(book, [wish], keys), parting(book, book.without(keys)), alike(book, book.without(keys)),
                [moves(book, standing) for _, standing in standings(book)],
                [row_to(book, standing) for _, standing in standings(book)], is_closed(book, wish, table)]

    def test_nothing_depends_on_chance_or_on_what_was_asked_or_changed_before(self):
        chance = seeded(82)
        for _ in range(30):
            book = random_book(chance)
            wish, keys = random_wish(chance, book), list(book.rows())[:3]
            passed = (wish, keys)
            kept = copy.deepcopy(passed)
            told = self.answers(book, *passed)
            first = copy.deepcopy(told)
            for answer in told:
                if isinstance(answer, list):
                    for part in answer:
                        if isinstance(part, list):
                            part.clear()
                if isinstance(answer, (list, dict)):
                    answer.clear()
            again = with_rows(book, book.rows())
            self.assertEqual(self.answers(book, *passed), first)
            self.assertEqual(self.answers(again, *passed), first)
            self.assertEqual(passed, kept)
            self.assertEqual(book, again)

    def test_truths_are_truths(self):
        book, other = example_book(), example_book().without([SEEN])
        table = closed(book, ("lower",))
        for told in (is_break(book, ("quiet", []), [("show", 1)]), is_closed(book, ("lower",), table),
                     alike(book, book)):
            self.assertIs(told, True)
        for told in (is_break(book, ("once",), [("show", 1)]), is_break(book, ("quiet", []), [("seen", 1)]),
                     is_break(book, GONE, []), is_break(book, GONE, [("show", 1)]),
                     is_break(book, ("lower",), [("show", 1)]), is_closed(book, ("lower",), table[1:]),
                     alike(book, other)):
            self.assertIs(told, False)


if __name__ == "__main__":
    unittest.main()
