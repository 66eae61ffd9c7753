"""The rules of a bench: their four words, and what is refused."""

import itertools
import unittest

from chairvote.errors import HallError, NoRules
from chairvote.rolls import wins
from chairvote.rules import Rules

CHOICES = (("once", "free"), ("best", "any"), ("own", "old"), ("most", "half"))
TOLD = ["once", "best", "own", "most"]


def values_of(rules):
    return (rules.once, rules.best, rules.own, rules.most)


class WordsTest(unittest.TestCase):
    def test_the_told_rules(self):
        for rules in (Rules(), Rules("once best own most"), Rules(text="once best own most")):
            self.assertEqual(values_of(rules), (True, True, True, True))

    def test_each_word_has_another_one(self):
        self.assertEqual(values_of(Rules("free best own most")), (False, True, True, True))
        self.assertEqual(values_of(Rules("once any own most")), (True, False, True, True))
        self.assertEqual(values_of(Rules("once best old most")), (True, True, False, True))
        self.assertEqual(values_of(Rules("once best own half")), (True, True, True, False))

    def test_all_choices(self):
        for words in itertools.product(*CHOICES):
            values = values_of(Rules(" ".join(words)))
            self.assertEqual(values, tuple(word in TOLD for word in words))
            for value in values:
                self.assertIs(type(value), bool)


class NoRulesTest(unittest.TestCase):
    def assert_refused(self, text, at):
        with self.subTest(text=text), self.assertRaises(NoRules) as caught:
            Rules(text)
        self.assertEqual(caught.exception.at, at)
        self.assertIsInstance(caught.exception, HallError)

    def test_a_wrong_word_at_each_place(self):
        others = [word for choice in CHOICES for word in choice] + ["", "x", "Once", "once,", "0", "none"]
        for k, choice in enumerate(CHOICES):
            for head in itertools.product(*CHOICES[:k]):
                for word in others:
                    if word not in choice:
                        self.assert_refused(" ".join(list(head) + [word] + TOLD[k + 1:]), k)
                        self.assert_refused(" ".join(list(head) + [word]), k)

    def test_the_first_wrong_word_is_told(self):
        self.assert_refused("x y z w", 0)
        self.assert_refused("once y z w", 1)
        self.assert_refused("free any z w v", 2)
        self.assert_refused("once best own w v u", 3)
        self.assert_refused("most own best once", 0)

    def test_words_that_lack(self):
        for words in itertools.product(*CHOICES):
            for count in (1, 2, 3):
                self.assert_refused(" ".join(words[:count]), count)

    def test_words_too_many(self):
        for words in itertools.product(*CHOICES):
            for more in (["x"], ["once"], ["most"], ["half"], ["x", "y"], TOLD):
                self.assert_refused(" ".join(list(words) + more), 4)

    def test_the_text_without_signs(self):
        self.assert_refused("", 0)

    def test_blanks_at_either_end(self):
        self.assert_refused(" ", 0)
        self.assert_refused(" once best own most", 0)
        self.assert_refused("once best own most ", 4)
        self.assert_refused("once best own most  ", 4)
        self.assert_refused("once ", 1)
        self.assert_refused("once best ", 2)
        self.assert_refused("once best own ", 3)

    def test_two_blanks(self):
        self.assert_refused("once  best own most", 1)
        self.assert_refused("once best  own most", 2)
        self.assert_refused("once best own  most", 3)
        self.assert_refused("free  any", 1)

    def test_other_signs_between_words(self):
        for sign in ("\n", ",", "-"):
            self.assert_refused("once" + sign + "best own most", 0)
            self.assert_refused("once best own" + sign + "most", 2)
            self.assert_refused("once best own most" + sign, 3)


class WinsTest(unittest.TestCase):
    def test_more_than_half(self):
        rules = Rules("free any old most")
        self.assertIs(rules.wins((7, 0), 3), True)
        self.assertIs(rules.wins((7, 0), 4), False)
        self.assertIs(rules.wins((15, 0), 3), False)
        self.assertIs(rules.wins((3, 12), 7), False)

    def test_at_least_half(self):
        rules = Rules("once best own half")
        self.assertIs(rules.wins((15, 0), 3), True)
        self.assertIs(rules.wins((15, 0), 1), False)
        self.assertIs(rules.wins((7, 0), 4), False)
        self.assertIs(rules.wins((3, 12), 5), True)
        self.assertIs(rules.wins((3, 12), 3), False)

    def test_as_rolls_are_won(self):
        for words in itertools.product(*CHOICES):
            rules = Rules(" ".join(words))
            for one in range(1, 8):
                for two in range(8):
                    for S in range(8):
                        self.assertEqual(rules.wins((one, two), S), wins((one, two), S, words[3] == "half"))


if __name__ == "__main__":
    unittest.main()
