import unittest
from copy import deepcopy

from homerounds.doings import idle
from homerounds.errors import NoLetter, NoNumber, TooLong
from homerounds.mirrors import Walk
from tests import reference
from tests.samples import ADDING, HUGE, NO_LETTERS, ODD_THINGS, ONE_STATE, SIXTEEN_RETURNS, Numbers, nested, told_by
from tests.test_mirrors import PAIRED, SOME_PAIRS, TAKING

NO_MANY = (None, True, False, "1", "", (), (1,), [1], [], -1, -2, HUGE, -HUGE, nested(8))
SOME_MIRRORED = [pair for pair in SOME_PAIRS[::40] if reference.parted(*pair) is None]
LONG_ONES = tuple([(doing, reference.back(doing)) for doing in SIXTEEN_RETURNS])


def home_of(doing, word):
    return reference.homes(doing, word)[-1]


class WalkTest(unittest.TestCase):
    def check(self, walk, one, other, word):
        """All that is told of a walk with this word in it."""
        image = reference.mirror(one, other, word)
        self.assertEqual(walk.word(), word)
        self.assertEqual(walk.image(), image)
        self.assertEqual(walk.home(), home_of(one, word))
        self.assertEqual(walk.home(), home_of(other, image))
        for told in (walk.word(), walk.image()):
            self.assertIs(type(told), tuple)

    def test_by_hand(self):
        walk = Walk(ADDING, TAKING)
        self.assertEqual((walk.word(), walk.image(), walk.home()), ((), (), 1))
        self.assertEqual([walk.feed(letter) for letter in (0, 1, 1, 0)], [0, 1, 0, 1])
        self.assertEqual((walk.word(), walk.image(), walk.home()), ((0, 1, 1, 0), (0, 1, 0, 1), 16))
        self.assertIs(walk.take_back(3), None)
        self.assertEqual((walk.word(), walk.image(), walk.home()), ((0,), (0,), 2))
        self.assertEqual(walk.feed(0), 0)
        self.assertEqual((walk.word(), walk.image(), walk.home()), ((0, 0), (0, 0), 4))

    def test_fed_letter_by_letter(self):
        numbers = Numbers(71)
        for one, other in PAIRED + LONG_ONES + tuple(SOME_MIRRORED):
            walk, word = Walk(one, other), ()
            for letter in numbers.word(one[0], 60):
                told = walk.feed(letter)
                self.assertIs(type(told), int)
                word += (letter,)
                self.assertEqual(told, reference.mirror(one, other, word)[-1])
            self.check(walk, one, other, word)

    def test_each_letter_behind_each_beginning(self):
        for one, other in PAIRED:
            walk = Walk(one, other)
            for letter in range(one[0]):
                self.assertEqual(walk.feed(letter), reference.mirror(one, other, (letter,))[-1])
                for following in range(one[0]):
                    told = walk.feed(following)
                    self.assertEqual(told, reference.mirror(one, other, (letter, following))[-1])
                    self.check(walk, one, other, (letter, following))
                    walk.take_back(1)
                    self.check(walk, one, other, (letter,))
                walk.take_back(1)
            self.check(walk, one, other, ())

    def wander(self, one, other, numbers, deeds):
        """Many walks are fed, taken back and forked, in any order, wrong ones between."""
        walks, words = [Walk(one, other)], [()]
        for _ in range(deeds):
            at = numbers.below(len(walks))
            walk, word = walks[at], words[at]
            deed = numbers.below(10)
            if deed < 5 and len(word) < 60:
                letter = numbers.below(one[0])
                words[at] = word + (letter,)
                self.assertEqual(walk.feed(letter), reference.mirror(one, other, words[at])[-1])
            elif deed < 7:
                many = numbers.below(min(len(word), 5) + 1)
                self.assertIs(walk.take_back(many), None)
                words[at] = word[:len(word) - many]
            elif deed < 8 and len(walks) < 7:
                walks.append(walk.fork())
                words.append(word)
            elif deed < 9:
                self.assertIs(told_by(walk.feed, one[0] + numbers.below(3)), NoLetter)
                self.assertIs(told_by(walk.feed, -1 - numbers.below(3)), NoLetter)
            else:
                self.assertIs(told_by(walk.take_back, len(word) + 1 + numbers.below(3)), NoNumber)
                self.assertIs(told_by(walk.take_back, -1 - numbers.below(3)), NoNumber)
            self.check(walks[at], one, other, words[at])
        for walk, word in zip(walks, words):
            self.check(walk, one, other, word)

    def test_in_any_order(self):
        numbers = Numbers(72)
        for one, other in PAIRED + LONG_ONES + tuple(SOME_MIRRORED):
            self.wander(one, other, numbers, 60)

    def test_take_back_any_number(self):
        numbers = Numbers(73)
        for one, other in PAIRED + LONG_ONES:
            word = numbers.word(one[0], 12)
            for many in range(13):
                walk = Walk(one, other)
                for letter in word:
                    walk.feed(letter)
                for number in range(-2, 16):
                    if not 0 <= number <= 12:
                        self.assertIs(told_by(walk.take_back, number), NoNumber)
                self.assertIs(walk.take_back(0), None)
                self.check(walk, one, other, word)
                self.assertIs(walk.take_back(many), None)
                self.check(walk, one, other, word[:12 - many])
                self.assertIs(told_by(walk.take_back, 13 - many), NoNumber)
                other_word = word[:12 - many]
                for letter in numbers.word(one[0], 5):
                    other_word += (letter,)
                    self.assertEqual(walk.feed(letter), reference.mirror(one, other, other_word)[-1])
                self.check(walk, one, other, other_word)

    def test_sixty_letters_and_one_more(self):
        numbers = Numbers(74)
        for one, other in PAIRED + LONG_ONES:
            word = numbers.word(one[0], 60)
            walk = Walk(one, other)
            for many, letter in enumerate(word):
                self.assertIs(told_by(walk.feed, one[0]), NoLetter)
                walk.feed(letter)
                self.assertEqual(len(walk.word()), many + 1)
            for letter in range(one[0]):
                self.assertIs(told_by(walk.feed, letter), TooLong)
            # What is no letter is refused ahead of what would be too long.
            for letter in (one[0], -1, None, True, (), "0"):
                self.assertIs(told_by(walk.feed, letter), NoLetter)
            self.check(walk, one, other, word)
            fork = walk.fork()
            self.assertIs(told_by(fork.feed, 0), TooLong)
            walk.take_back(1)
            self.assertIs(told_by(fork.feed, 0), TooLong)
            self.assertEqual(walk.feed(word[-1]), reference.mirror(one, other, word)[-1])
            self.assertIs(told_by(walk.feed, 0), TooLong)
            self.assertIs(told_by(walk.take_back, 61), NoNumber)
            walk.take_back(60)
            self.check(walk, one, other, ())
            self.check(fork, one, other, word)

    def test_forks_go_on_for_themselves(self):
        numbers = Numbers(75)
        for one, other in PAIRED + LONG_ONES:
            for many in (0, 1, 7, 59):
                word = numbers.word(one[0], many)
                walk = Walk(one, other)
                for letter in word:
                    walk.feed(letter)
                fork = walk.fork()
                self.assertIsInstance(fork, Walk)
                self.assertIsNot(fork, walk)
                self.check(fork, one, other, word)
                walk.feed(0)
                self.check(fork, one, other, word)
                fork.feed(one[0] - 1)
                self.check(walk, one, other, word + (0,))
                self.check(fork, one, other, word + (one[0] - 1,))
                of_the_fork = fork.fork()
                fork.take_back(many + 1)
                self.check(fork, one, other, ())
                self.check(of_the_fork, one, other, word + (one[0] - 1,))
                self.check(walk, one, other, word + (0,))
                walk.take_back(1)
                self.check(of_the_fork, one, other, word + (one[0] - 1,))

    def test_each_fork_holds_sixty_letters(self):
        numbers = Numbers(76)
        one, other = PAIRED[-1]
        walk, word = Walk(one, other), numbers.word(one[0], 60)
        forks = []
        for letter in word:
            forks.append(walk.fork())
            walk.feed(letter)
        for many, fork in enumerate(forks):
            beside = numbers.word(one[0], 60 - many)
            for letter in beside:
                fork.feed(letter)
            self.assertIs(told_by(fork.feed, 0), TooLong)
            self.check(fork, one, other, word[:many] + beside)
            fork.take_back(60 - many)
            self.check(fork, one, other, word[:many])
        self.check(walk, one, other, word)

    def test_two_walks_of_the_same_doings(self):
        one, other = PAIRED[-2]
        walk, beside = Walk(one, other), Walk(one, other)
        walk.feed(1)
        self.check(beside, one, other, ())
        beside.feed(2)
        walk.feed(3)
        self.check(walk, one, other, (1, 3))
        self.check(beside, one, other, (2,))


class RefusalTest(unittest.TestCase):
    def test_no_letter(self):
        for one, other in PAIRED:
            walk = Walk(one, other)
            walk.feed(1)
            for letter in NO_LETTERS:
                self.assertIs(told_by(walk.feed, letter), NoLetter)
            for letter in range(one[0], 6):
                self.assertIs(told_by(walk.feed, letter), NoLetter)
            self.assertEqual((walk.word(), walk.image()), ((1,), reference.mirror(one, other, (1,))))

    def test_no_number(self):
        walk = Walk(ADDING, TAKING)
        for letter in (0, 1, 0, 0, 1):
            for many in NO_MANY:
                self.assertIs(told_by(walk.take_back, many), NoNumber)
            before = (walk.word(), walk.image(), walk.home())
            self.assertIs(told_by(walk.take_back, len(before[0]) + 1), NoNumber)
            self.assertEqual((walk.word(), walk.image(), walk.home()), before)
            walk.feed(letter)
        self.assertEqual(walk.word(), (0, 1, 0, 0, 1))


class NothingChangesTest(unittest.TestCase):
    def test_what_is_handed_in_stays_as_it_is(self):
        walk = Walk(ONE_STATE, ONE_STATE)
        for thing in ODD_THINGS + NO_LETTERS + NO_MANY:
            before = deepcopy(thing)
            told_by(walk.feed, thing)
            told_by(walk.take_back, thing)
            told_by(Walk, thing, thing)
            told_by(Walk, ADDING, thing)
            self.assertEqual(thing, before)

    def test_the_same_is_told_again(self):
        for one, other in PAIRED:
            walk, again = Walk(one, other), Walk(*deepcopy((one, other)))
            for letter in (1, 0, 0, 1, 1, 0):
                self.assertEqual(walk.feed(letter), again.feed(letter))
                self.assertEqual(walk.image(), walk.image())
            self.assertEqual(walk.image(), again.image())
        walk = Walk(idle(4), idle(4))
        self.assertEqual([walk.feed(letter) for letter in range(4)], [0, 1, 2, 3])


if __name__ == "__main__":
    unittest.main()
