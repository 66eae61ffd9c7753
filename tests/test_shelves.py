"""Shelves: values of names, asks done once, and what is told of a shelf."""

import itertools
import unittest

from chairvote.shelves import Shelf, shelf_of

NAMES = ("a", "z", "ab", "abcdefgh", "zzzzzzzz")
NUMBERS = (0, 1, -1, 7, -12, 10 ** 40, -(10 ** 40), 10 ** 59 + 1, 1 - 10 ** 60)


def done(orders):
    shelf = Shelf()
    answers = [shelf.do(0, k, order) for k, order in enumerate(orders)]
    return shelf, answers


class OrdersTest(unittest.TestCase):
    def test_each_value_is_0_at_first(self):
        for name in NAMES:
            self.assertEqual(Shelf().value_of(name), 0)

    def test_put_gives_the_value_before(self):
        for name, first, second in itertools.product(NAMES, NUMBERS, NUMBERS):
            shelf, answers = done([("put", name, first), ("put", name, second)])
            self.assertEqual(answers, [0, first])
            self.assertEqual(shelf.value_of(name), second)

    def test_add_gives_the_value_then(self):
        for name, first, second in itertools.product(NAMES, NUMBERS, NUMBERS):
            shelf, answers = done([("add", name, first), ("add", name, second)])
            self.assertEqual(answers, [first, first + second])
            self.assertEqual(shelf.value_of(name), first + second)

    def test_swap_where_the_value_is_old(self):
        for name, first, second in itertools.product(NAMES, NUMBERS, NUMBERS):
            shelf, answers = done([("put", name, first), ("swap", name, first, second)])
            self.assertEqual(answers, [0, 1])
            self.assertEqual(shelf.value_of(name), second)

    def test_swap_where_the_value_is_another_one(self):
        for name, first, second in itertools.product(NAMES, NUMBERS, NUMBERS):
            for off in (1, -1, 10 ** 40):
                shelf, answers = done([("put", name, first), ("swap", name, first + off, second)])
                self.assertEqual(answers, [0, 0])
                self.assertEqual(shelf.value_of(name), first)

    def test_swap_of_a_name_that_was_never_put_to(self):
        shelf, answers = done([("swap", "a", 1, 5), ("swap", "a", 0, 5), ("swap", "a", 5, 5), ("swap", "a", 5, 0)])
        self.assertEqual(answers, [0, 1, 1, 1])
        self.assertEqual(shelf.value_of("a"), 0)

    def test_a_swap_to_the_same_value_is_answered_by_1(self):
        self.assertEqual(done([("swap", "b", 0, 0)])[1], [1])

    def test_names_are_apart(self):
        orders = [("put", name, 3 + k) for k, name in enumerate(NAMES)]
        shelf, answers = done(orders + [("add", "a", 100)])
        self.assertEqual(answers, [0] * len(NAMES) + [103])
        self.assertEqual([shelf.value_of(name) for name in NAMES], [103, 4, 5, 6, 7])
        self.assertEqual(shelf.value_of("aa"), 0)


class OnceTest(unittest.TestCase):
    def test_an_ask_done_before_does_nothing_whatever_its_order(self):
        first = ("put", "a", 5)
        others = (first, ("put", "a", 6), ("add", "a", 1), ("swap", "a", 5, 9), ("put", "b", 3), ("add", "c", -1))
        for who, number in ((0, 0), (-3, 4), (10 ** 50, -(10 ** 50))):
            for other in others:
                with self.subTest(who=who, number=number, other=other):
                    shelf = Shelf()
                    shelf.do(who + 1, number, ("put", "a", 2))
                    self.assertEqual(shelf.do(who, number, first), 2)
                    before = shelf.told()
                    for again in range(3):
                        self.assertEqual(shelf.do(who, number, other), 2)
                        self.assertEqual(shelf.told(), before)

    def test_the_kept_answer_stays_when_the_value_changes(self):
        shelf = Shelf()
        self.assertEqual(shelf.do(1, 1, ("add", "a", 4)), 4)
        self.assertEqual(shelf.do(1, 2, ("add", "a", 4)), 8)
        self.assertEqual(shelf.do(1, 1, ("add", "a", 4)), 4)
        self.assertEqual(shelf.value_of("a"), 8)

    def test_answers_of_0_are_kept_too(self):
        shelf = Shelf()
        self.assertEqual(shelf.do(1, 1, ("swap", "a", 3, 4)), 0)
        shelf.do(1, 2, ("put", "a", 3))
        self.assertEqual(shelf.do(1, 1, ("swap", "a", 3, 4)), 0)
        self.assertEqual(shelf.value_of("a"), 3)

    def test_an_ask_is_known_by_who_and_number_both(self):
        shelf = Shelf()
        for k, (who, number) in enumerate(((1, 2), (2, 1), (1, 1), (2, 2), (12, 0), (1, 20)), start=1):
            self.assertEqual(shelf.do(who, number, ("add", "a", 1)), k)

    def test_a_shelf_made_of_what_was_told_knows_the_asks_done(self):
        shelf = Shelf()
        shelf.do(1, 1, ("add", "a", 4))
        for like in (shelf_of(shelf.told()), shelf.twin()):
            self.assertEqual(like.do(1, 1, ("add", "a", 9)), 4)
            self.assertEqual(like.value_of("a"), 4)
            self.assertEqual(like.do(1, 2, ("add", "a", 9)), 13)


class ToldTest(unittest.TestCase):
    def test_the_empty_shelf(self):
        self.assertEqual(Shelf().told(), ((), ()))

    def test_what_is_told_is_sorted_and_without_values_of_0(self):
        shelf = Shelf()
        for who, number, order in (
            (5, 1, ("put", "b", 3)), (-2, 9, ("add", "ab", -4)), (5, -1, ("put", "a", 1)),
            (10 ** 40, 0, ("put", "c", 2)),
            (5, 0, ("add", "c", -2)), (-2, 8, ("swap", "d", 1, 2)), (5, 2, ("put", "e", 0)), (3, 3, ("put", "a", 0)),
            (10, 3, ("put", "aa", 10 ** 41)),
        ):
            shelf.do(who, number, order)
        self.assertEqual(shelf.told(), (
            (("aa", 10 ** 41), ("ab", -4), ("b", 3)),
            ((-2, 8, 0), (-2, 9, -4), (3, 3, 1), (5, -1, 0), (5, 0, 0), (5, 1, 0), (5, 2, 0), (10, 3, 0),
             (10 ** 40, 0, 0)),
        ))

    def test_what_is_told_is_of_tuples_alone(self):
        shelf = done([("put", "a", 3), ("add", "b", 4)])[0]
        told = shelf.told()
        for part in (told, told[0], told[1]) + told[0] + told[1]:
            self.assertIs(part.__class__, tuple)
        self.assertEqual([len(told), len(told[0][0]), len(told[1][0])], [2, 2, 3])

    def test_what_was_told_does_not_change_later(self):
        shelf = done([("put", "a", 3)])[0]
        told = shelf.told()
        shelf.do(9, 9, ("put", "a", 4))
        self.assertEqual(told, ((("a", 3),), ((0, 0, 0),)))

    def test_asks_in_another_order_lead_to_the_same_telling(self):
        orders = [(k, -k, ("add", "abc"[k], k + 1)) for k in range(3)]
        all_told = []
        for some in itertools.permutations(orders):
            shelf = Shelf()
            for who, number, order in some:
                shelf.do(who, number, order)
            all_told.append(shelf.told())
        self.assertEqual(all_told, [all_told[0]] * 6)

    def test_a_like_shelf_is_made_of_what_is_told(self):
        for orders in ([], [("put", "a", 0)], [("put", "a", -3), ("add", "b", 10 ** 45), ("swap", "a", -3, 4)]):
            shelf = done(orders)[0]
            for like in (shelf_of(shelf.told()), shelf.twin()):
                self.assertIsInstance(like, Shelf)
                self.assertEqual(like.told(), shelf.told())
                self.assertEqual([like.value_of(n) for n in "abc"], [shelf.value_of(n) for n in "abc"])

    def test_like_shelves_are_apart(self):
        for make in (lambda shelf: shelf_of(shelf.told()), lambda shelf: shelf.twin()):
            shelf = done([("put", "a", 3), ("put", "b", 4)])[0]
            before = shelf.told()
            like = make(shelf)
            like.do(7, 7, ("put", "a", 5))
            self.assertEqual(shelf.told(), before)
            like = make(shelf)
            shelf.do(7, 7, ("put", "a", 5))
            self.assertEqual(like.told(), before)
            self.assertEqual(like.value_of("a"), 3)

    def test_two_shelves_of_one_telling_are_apart(self):
        told = ((("a", 1),), ((0, 0, 1),))
        one = shelf_of(told)
        two = shelf_of(told)
        one.do(1, 1, ("put", "a", 2))
        self.assertEqual(two.told(), told)
        self.assertEqual(told, ((("a", 1),), ((0, 0, 1),)))

    def test_two_new_shelves_are_apart(self):
        one = Shelf()
        two = Shelf()
        one.do(1, 1, ("put", "a", 2))
        self.assertEqual(two.told(), ((), ()))


if __name__ == "__main__":
    unittest.main()
