import unittest
from copy import deepcopy
from itertools import product

from homerounds.doings import back, behind, doing_of, does, idle, is_doing, joined, times
from homerounds.errors import NoDoing, NoLetter, NoWord, TooMany
from homerounds.returns import return_at, return_behind, returns, round_of
from tests import reference
from tests.samples import (
    ADDING, ALESHIN, GRIGORCHUK, GUPTA_SIDKI, NO_DOINGS, NO_LETTERS, NO_WORDS, ODD_THINGS, ONE_STATE,
    ROUND_AND_ROUND, SEVENTEEN_RETURNS, SIXTEEN_RETURNS, SMALL_BEHIND, SWELLING, THREE, Numbers, chain,
    or_too_many, some_doings, told_by, words_to,
)

TURNING = (4, (((1, 2, 3, 0), (0, 0, 0, 0)),))
KNOWN = (
    ADDING, ONE_STATE, idle(2), idle(3), idle(4), TURNING, doing_of(GRIGORCHUK, (0, 1)), doing_of(GRIGORCHUK, (1,)),
    doing_of(GUPTA_SIDKI, (0, 1)), doing_of(THREE, (1,)), chain(3, 16), SWELLING, back(SWELLING),
) + SIXTEEN_RETURNS


class RoundOfTest(unittest.TestCase):
    def test_by_hand(self):
        for doing, letter, told in (
            (ADDING, 0, [0, 1]), (ADDING, 1, [1, 0]), (idle(2), 1, [1]), (SMALL_BEHIND, 0, [0, 1]),
            (SMALL_BEHIND, 1, [1, 0]), (SMALL_BEHIND, 2, [2]), (TURNING, 0, [0, 1, 2, 3]), (TURNING, 2, [2, 3, 0, 1]),
            (back(TURNING), 2, [2, 1, 0, 3]), ((3, (((2, 0, 1), (0, 0, 0)),)), 1, [1, 0, 2]),
            ((4, (((3, 1, 0, 2), (0, 0, 0, 0)),)), 0, [0, 3, 2]), ((4, (((3, 1, 0, 2), (0, 0, 0, 0)),)), 1, [1]),
            ((4, (((1, 0, 3, 2), (0, 0, 0, 0)),)), 3, [3, 2]),
        ):
            with self.subTest(doing=doing, letter=letter):
                self.assertEqual(round_of(doing, letter), told)

    def test_each_letter(self):
        for letters in (2, 3, 4):
            for doing in some_doings(letters, 30, 4 * letters):
                for letter in range(letters):
                    told = round_of(doing, letter)
                    self.assertEqual(told[0], letter)
                    self.assertEqual(len(set(told)), len(told))
                    for one, following in zip(told, told[1:] + told[:1]):
                        self.assertEqual(does(doing, (one,)), (following,))

    def test_is_not_refused_where_the_return_is(self):
        self.assertEqual(round_of(ROUND_AND_ROUND, 1), [1, 2, 3, 0])


class ReturnAtTest(unittest.TestCase):
    def test_by_hand(self):
        nothing = idle(2)
        for doing, letter, told in (
            (ADDING, 0, ADDING), (ADDING, 1, ADDING), (nothing, 0, nothing), (ONE_STATE, 0, nothing),
            (chain(2, 5), 1, chain(2, 4)), (chain(2, 2), 0, nothing), (TURNING, 3, idle(4)),
            (doing_of(ADDING, (0, 0)), 0, ADDING), (doing_of(ADDING, (-1,)), 0, doing_of(ADDING, (-1,))),
            (doing_of(GRIGORCHUK, (1,)), 0, doing_of(GRIGORCHUK, (0,))),
            (doing_of(GRIGORCHUK, (1,)), 1, doing_of(GRIGORCHUK, (2,))),
            # Behind 0 stand idle and b, then 1 and so c; done twice behind 0 it's c a and behind 1 a c.
            (doing_of(GRIGORCHUK, (0, 1)), 0, doing_of(GRIGORCHUK, (2, 0))),
            (doing_of(GRIGORCHUK, (0, 1)), 1, doing_of(GRIGORCHUK, (0, 2))),
        ):
            with self.subTest(doing=doing, letter=letter):
                self.assertEqual(return_at(doing, letter), told)

    def test_told(self):
        refused = 0
        for letters in (2, 3, 4):
            for doing in some_doings(letters, 60, 7 * letters):
                for letter in range(letters):
                    told = or_too_many(return_at, doing, letter)
                    self.assertEqual(told, reference.return_at(doing, letter))
                    refused += told is None
        self.assertGreater(refused, 20)

    def test_what_stands_behind_when_it_is_done_so_often(self):
        for doing in KNOWN:
            for letter in range(doing[0]):
                done = times(doing, len(round_of(doing, letter)))
                self.assertEqual(return_at(doing, letter), behind(done, (letter,)))

    def test_too_many(self):
        # Behind letters 0 and 1 there are 4 states alone, but done twice it isn't held.
        for letter in (0, 1):
            self.assertIs(told_by(return_at, SMALL_BEHIND, letter), TooMany)
        self.assertEqual(return_at(SMALL_BEHIND, 2), behind(SMALL_BEHIND, (2,)))
        # Done four times it's idle, done three times it has 11 states, but twice 17.
        for letter in range(4):
            self.assertIs(told_by(return_at, ROUND_AND_ROUND, letter), TooMany)

    def test_letters_come_home_at_unlike_times(self):
        # Letter 0 comes home at once, 1 and 2 after two times.
        doing = (3, (((0, 2, 1), (1, 2, 3)), ((0, 1, 2), (2, 3, 2)), ((1, 2, 0), (4, 4, 4)), ((1, 0, 2), (4, 4, 4)),
                     ((0, 1, 2), (4, 4, 4))))
        self.assertIs(is_doing(doing), True)
        self.assertEqual(return_at(doing, 0), behind(doing, (0,)))
        self.assertEqual(return_at(doing, 1), joined(behind(doing, (1,)), behind(doing, (2,))))
        self.assertEqual(return_at(doing, 2), joined(behind(doing, (2,)), behind(doing, (1,))))
        self.assertNotEqual(return_at(doing, 1), return_at(doing, 2))


class ReturnBehindTest(unittest.TestCase):
    def test_letter_by_letter(self):
        for doing in KNOWN:
            told = {(): doing}
            for word in words_to(doing[0], 4)[1:]:
                ahead = told[word[:-1]]
                told[word] = None if ahead is None else or_too_many(return_at, ahead, word[-1])
                self.assertEqual(or_too_many(return_behind, doing, word), told[word])

    def test_told(self):
        for letters in (2, 3, 4):
            for doing in some_doings(letters, 12, 31 * letters):
                for word in words_to(letters, 3):
                    told = doing
                    for letter in word:
                        told = None if told is None else reference.return_at(told, letter)
                    self.assertEqual(or_too_many(return_behind, doing, word), told)

    def test_it_is_what_turns_behind_the_word_come_home(self):
        doing = doing_of(GRIGORCHUK, (0, 1))
        for word in words_to(2, 4):
            done = times(doing, reference.home(doing, word))
            self.assertEqual(return_behind(doing, word), behind(done, word))

    def test_by_hand(self):
        self.assertEqual(return_behind(ADDING, ()), ADDING)
        self.assertEqual(return_behind(ADDING, (0, 1) * 100), ADDING)
        self.assertEqual(return_behind(chain(2, 16), (0, 1, 1)), chain(2, 13))
        self.assertEqual(return_behind(chain(2, 16), (1,) * 200), idle(2))
        self.assertEqual(return_behind(ROUND_AND_ROUND, ()), ROUND_AND_ROUND)

    def test_long_words(self):
        numbers = Numbers(77)
        for doing in (ADDING, KNOWN[6], KNOWN[8]) + SIXTEEN_RETURNS:
            word = numbers.word(doing[0], 200)
            told = doing
            for letter in word:
                told = return_at(told, letter)
            self.assertEqual(return_behind(doing, word), told)

    def test_too_many_on_the_way(self):
        # Behind letter 0 stands SMALL_BEHIND.
        states = (((0, 1, 2), (1, 6, 6)),) + tuple([
            (turns, tuple([number + 1 for number in nexts])) for turns, nexts in SMALL_BEHIND[1]
        ])
        doing = reference.least(3, reference.doing_chain((3, states)))
        self.assertEqual(return_behind(doing, (0,)), SMALL_BEHIND)
        self.assertEqual(return_behind(doing, (0, 2)), behind(SMALL_BEHIND, (2,)))
        for word in ((0, 0), (0, 1), (0, 0, 2), (0, 1, 2, 2)):
            self.assertIs(told_by(return_behind, doing, word), TooMany)


def returns_by_words(doing, length):
    """The returns at all words up to this length, each once, as they are come to first."""
    told = []
    for word in words_to(doing[0], length):
        one = return_behind(doing, word)
        if one not in told:
            told.append(one)
    return told


class ReturnsTest(unittest.TestCase):
    def test_by_hand(self):
        a, b, c, d = [doing_of(GRIGORCHUK, (state,)) for state in range(4)]
        self.assertEqual(returns(ADDING), [ADDING])
        self.assertEqual(returns(idle(3)), [idle(3)])
        self.assertEqual(returns(ONE_STATE), [ONE_STATE, idle(2)])
        self.assertEqual(returns(a), [a, idle(2)])
        self.assertEqual(returns(b), [b, a, c, idle(2), d])
        self.assertEqual(returns(d), [d, idle(2), b, a, c])
        self.assertEqual(returns(chain(2, 4)), [chain(2, 4), chain(2, 3), chain(2, 2), idle(2)])

    def test_told(self):
        seen = {}
        for letters in (2, 3, 4):
            for doing in some_doings(letters, 80, 17 * letters):
                told = or_too_many(returns, doing)
                self.assertEqual(told, reference.returns(doing))
                seen[None if told is None else len(told)] = True
        self.assertGreater(len(seen), 6)
        self.assertIn(None, seen)

    def test_as_words_come_to_them(self):
        for doing, length in ((KNOWN[6], 7), (KNOWN[7], 5), (KNOWN[8], 4), (SIXTEEN_RETURNS[0], 8),
                              (SIXTEEN_RETURNS[1], 5), (doing_of(GRIGORCHUK, (0, 2)), 6)):
            told = returns(doing)
            self.assertEqual(told, returns_by_words(doing, length))
            for one in told:
                for letter in range(doing[0]):
                    self.assertIn(return_at(one, letter), told)

    def test_just_sixteen_and_one_more(self):
        for doing in SIXTEEN_RETURNS:
            self.assertEqual(len(returns(doing)), 16)
            self.assertEqual(returns(doing), reference.returns(doing))
        for doing in SEVENTEEN_RETURNS:
            # All of them are held and told, there are only too many of them.
            self.assertEqual(len(reference.returns(doing, 17)), 17)
            self.assertIs(told_by(returns, doing), TooMany)
        for letters in (2, 3, 4):
            self.assertEqual(returns(chain(letters, 16)), [chain(letters, many) for many in range(16, 0, -1)])

    def test_too_many_where_one_is_not_held(self):
        for doing in (SMALL_BEHIND, ROUND_AND_ROUND, doing_of(ALESHIN, (0, 1))):
            self.assertIs(told_by(returns, doing), TooMany)
            self.assertIs(reference.returns(doing, 40), None)

    def test_a_list(self):
        self.assertIs(type(returns(ADDING)), list)
        for doing in returns(SIXTEEN_RETURNS[1]):
            self.assertIs(is_doing(doing), True)


class RefusalTest(unittest.TestCase):
    def test_doings(self):
        for doing in NO_DOINGS + ODD_THINGS:
            self.assertIs(told_by(returns, doing), NoDoing)
            for deed in (round_of, return_at):
                for letter in (0, 1, 5, None):
                    self.assertIs(told_by(deed, doing, letter), NoDoing)
            for word in ((), (0,), (9,), None):
                self.assertIs(told_by(return_behind, doing, word), NoDoing)

    def test_letters(self):
        for deed, doing in product((round_of, return_at), (ADDING, SMALL_BEHIND, ROUND_AND_ROUND)):
            for letter in NO_LETTERS:
                self.assertIs(told_by(deed, doing, letter), NoLetter)
            self.assertIs(told_by(deed, doing, doing[0]), NoLetter)
        for letter in range(-3, 7):
            for letters in (2, 3, 4):
                told = None if 0 <= letter < letters else NoLetter
                self.assertIs(told_by(round_of, idle(letters), letter), told)
                self.assertIs(told_by(return_at, idle(letters), letter), told)

    def test_words(self):
        for doing in (ADDING, SWELLING, doing_of(GRIGORCHUK, (0, 1))):
            for word in NO_WORDS:
                self.assertIs(told_by(return_behind, doing, word), NoWord)
        self.assertIs(told_by(return_behind, ROUND_AND_ROUND, (0, 4)), NoWord)
        self.assertIs(told_by(return_behind, ROUND_AND_ROUND, (0, 3)), TooMany)
        self.assertIs(told_by(return_behind, ADDING, (0,) * 200), None)
        self.assertIs(told_by(return_behind, ADDING, (0,) * 201), NoWord)


class NothingChangesTest(unittest.TestCase):
    def test_what_is_handed_in_stays_as_it_is(self):
        for thing in ODD_THINGS + NO_DOINGS + NO_LETTERS + NO_WORDS:
            before = deepcopy(thing)
            told_by(returns, thing)
            for deed in (round_of, return_at, return_behind):
                told_by(deed, thing, thing)
                told_by(deed, ADDING, thing)
            self.assertEqual(thing, before)

    def test_told_lists_are_new_ones(self):
        for deed, handed_in in (
            (round_of, (TURNING, 2)), (round_of, (idle(2), 1)), (returns, (ADDING,)), (returns, SIXTEEN_RETURNS[:1]),
        ):
            told = deed(*handed_in)
            before = list(told)
            told.reverse()
            told.append("changed")
            self.assertEqual(deed(*handed_in), before)
            told.clear()
            self.assertEqual(deed(*handed_in), before)
        self.assertEqual(return_behind(ADDING, (0, 1)), return_behind(ADDING, (0, 1)))


if __name__ == "__main__":
    unittest.main()
