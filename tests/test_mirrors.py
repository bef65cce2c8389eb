import unittest
from copy import deepcopy
from itertools import product

from homerounds.doings import does, idle
from homerounds.errors import NoDoing, NoFit, NoMirror, NoNumber, NoWord, TooMany
from homerounds.homes import homes, homes_of
from homerounds.mirrors import Walk, mirror, mirrored, tree
from homerounds.returns import returns
from tests import reference
from tests.samples import (
    ADDING, ALESHIN, GRIGORCHUK, GUPTA_SIDKI, MARKED_13, MARKED_14, NO_DOINGS, NO_LENGTHS, NO_WORDS, ODD_THINGS,
    ONE_STATE, ROUND_AND_ROUND, SEVENTEEN_RETURNS, SIXTEEN_ALONG, SIXTEEN_RETURNS, SMALL_BEHIND, SWELLING, Numbers,
    chain, first_refusal, held_doings, or_too_many, some_doings, standing, told_by, words_to,
)

A, B, C, D = [reference.row_doing(GRIGORCHUK, (state,)) for state in range(4)]
A_B = reference.row_doing(GRIGORCHUK, (0, 1))
B_A = reference.row_doing(GRIGORCHUK, (1, 0))
A_T = reference.row_doing(GUPTA_SIDKI, (0, 1))
T_A = reference.row_doing(GUPTA_SIDKI, (1, 0))
TAKING = reference.back(ADDING)
ADDING_3 = reference.least(3, reference.doing_chain((3, (((1, 2, 0), (1, 1, 0)), ((0, 1, 2), (1, 1, 1))))))
ADDING_4 = reference.least(4, reference.doing_chain((4, (((1, 2, 3, 0), (1, 1, 1, 0)), ((0, 1, 2, 3), (1,) * 4)))))
# One is added too, but letters stand for other bits.
ADDING_OTHERWISE = (2, (((1, 0), (1, 2)), ((0, 1), (1, 1)), ((1, 0), (2, 1))))
ADDS_3, ADDS_BACK_3 = ADDING_3, reference.back(ADDING_3)
ADDS_4, ADDS_BACK_4 = ADDING_4, reference.back(ADDING_4)
SHORT_4 = chain(4, 3)
FIXED = (0, 1, 2, 3)

# Pairs that are mirrored; the rounds of one length and the returns at them stand in unlike orders.
PAIRED = (
    (idle(2), idle(2)), (ADDING, ADDING), (ADDING, TAKING), (TAKING, ADDING), (A_B, B_A), (A_T, T_A),
    (A_B, reference.back(A_B)), (ONE_STATE, ONE_STATE), (B, B), (MARKED_14, MARKED_14), (ADDING_4, ADDS_BACK_4),
    (standing((0, 1), (ADDING, ONE_STATE)), standing((0, 1), (ONE_STATE, TAKING))),
    (standing((0, 2, 1), (ADDS_3, idle(3), ADDS_3)), standing((1, 0, 2), (idle(3), ADDS_BACK_3, ADDS_BACK_3))),
    (standing((0, 1, 2), (ADDS_3, idle(3), ADDS_BACK_3)), standing((0, 1, 2), (idle(3), ADDS_3, ADDS_BACK_3))),
    (standing(FIXED, (ADDS_4, SHORT_4, ADDS_BACK_4, SHORT_4)),
     standing(FIXED, (SHORT_4, ADDS_BACK_4, SHORT_4, ADDS_4))),
    (standing(FIXED, (ADDS_4, ADDS_BACK_4, ADDS_4, idle(4))), standing(FIXED, (idle(4), ADDS_4, ADDS_4, ADDS_BACK_4))),
    (standing((1, 0, 3, 2), (ADDS_4, idle(4), SHORT_4, idle(4))),
     standing((2, 3, 0, 1), (idle(4), idle(4), ADDS_BACK_4, SHORT_4))),
    (standing((0, 2, 3, 1), (SHORT_4, ADDS_4, idle(4), SHORT_4)),
     standing((3, 1, 0, 2), (SHORT_4, SHORT_4, ADDS_BACK_4, idle(4)))),
    (standing((3, 0, 1, 2), (SHORT_4, ADDS_4, SHORT_4, idle(4))),
     standing((2, 3, 1, 0), (ADDS_4, idle(4), SHORT_4, SHORT_4))),
    (standing((1, 0, 2, 3), (idle(4), ADDS_4, SHORT_4, ADDS_4)),
     standing((0, 1, 3, 2), (ADDS_BACK_4, SHORT_4, ADDS_4, idle(4)))),
)

# Pairs that are parted, with the least length.
PARTED = (
    (idle(2), ADDING, 1), (idle(2), ONE_STATE, 1), (ADDING, ONE_STATE, 2), (chain(2, 16), idle(2), 15),
    (chain(2, 16), chain(2, 15), 14), (chain(3, 16), idle(3), 15), (chain(4, 5), chain(4, 9), 4),
    (MARKED_14, MARKED_13, 27), (MARKED_13, MARKED_14, 27), (B, C, 3), (B, D, 2), (ADDING_4, idle(4), 1),
    (standing(FIXED, (ADDS_4, ADDS_4, SHORT_4, idle(4))), standing(FIXED, (ADDS_4, SHORT_4, SHORT_4, idle(4))), 2),
    (standing((0, 1, 2), (ADDS_3, ADDS_3, idle(3))), standing((0, 1, 2), (ADDS_3, idle(3), idle(3))), 2),
)


def turned_by(doing, by):
    """The back of the one, then the doing, then the one: mirrored to the doing; None where it isn't held or told."""
    told = reference.joined(reference.back(by), doing)
    told = None if told is None else reference.joined(told, by)
    return None if told is None or reference.returns(told) is None else told


def some_pairs():
    """Pairs of doings whose returns are told: any ones, and ones that are turned into one another."""
    told = []
    for letters, many in ((2, 25), (3, 20), (4, 20)):
        doings = held_doings(letters, many, 400 + letters)
        told += list(product(doings[::3], doings[::4]))
        for doing, by in product(doings, doings[::2]):
            other = turned_by(doing, by)
            if other is not None:
                told.append((doing, other))
    return told


SOME_PAIRS = some_pairs()


class TreeTest(unittest.TestCase):
    def test_by_hand(self):
        for doing, length, told in (
            (ADDING, 0, ()), (ADDING, 1, ((2, ()),)), (ADDING, 3, ((2, ((2, ((2, ()),)),)),)),
            (idle(2), 1, ((1, ()), (1, ()))), (idle(3), 1, ((1, ()), (1, ()), (1, ()))), (idle(4), 0, ()),
            (idle(2), 2, ((1, ((1, ()), (1, ()))), (1, ((1, ()), (1, ()))))), (chain(2, 2), 1, ((2, ()),)),
            (chain(2, 2), 2, ((2, ((1, ()), (1, ()))),)), (chain(3, 2), 1, ((1, ()), (2, ()))),
            (standing((0, 1), (ADDING, idle(2))), 2, ((1, ((1, ()), (1, ()))), (1, ((2, ()),)))),
            (standing((0, 1), (idle(2), ADDING)), 2, ((1, ((1, ()), (1, ()))), (1, ((2, ()),)))),
            (standing((3, 1, 0, 2), (SHORT_4,) * 4), 1, ((1, ()), (3, ()))),
        ):
            with self.subTest(doing=doing, length=length):
                self.assertEqual(tree(doing, length), told)

    def test_to_the_sign(self):
        for letters, longest in ((2, 8), (3, 5), (4, 4)):
            doings = held_doings(letters, 25, 500 + letters)
            for doing in doings + [one for one in SIXTEEN_RETURNS if one[0] == letters]:
                for length in range(longest + 1):
                    self.assertEqual(tree(doing, length), reference.tree(doing, length))

    def test_too_many_words(self):
        for letters, longest in ((2, 8), (3, 5), (4, 4)):
            for length in range(201):
                refused = None if length <= longest else TooMany
                self.assertIs(told_by(tree, idle(letters), length), refused)

    def test_too_many_returns(self):
        for doing in (SMALL_BEHIND, ROUND_AND_ROUND, SIXTEEN_ALONG[0][0]) + SEVENTEEN_RETURNS:
            for length in (0, 1, 2, 4, 9, 200):
                self.assertIs(told_by(tree, doing, length), TooMany)
        for letters in (2, 3, 4):
            for doing in some_doings(letters, 30, 510 + letters):
                refused = TooMany if reference.returns(doing) is None else None
                self.assertIs(told_by(tree, doing, 2), refused)

    def test_refusals(self):
        for doing in NO_DOINGS + ODD_THINGS + (ALESHIN,):
            for length in (0, 3, None, -1, 500):
                self.assertIs(told_by(tree, doing, length), NoDoing)
        for doing in (ADDING, SMALL_BEHIND, SEVENTEEN_RETURNS[0]):
            for length in NO_LENGTHS:
                self.assertIs(told_by(tree, doing, length), NoNumber)


class MirroredTest(unittest.TestCase):
    def check(self, one, other):
        told = mirrored(one, other)
        length = reference.parted(one, other)
        if length is not None:
            self.assertEqual(told, ("parted", length))
            self.assertIs(type(told[1]), int)
            return told
        word, pairs = told
        self.assertEqual(word, "mirrored")
        self.assertIs(type(pairs), list)
        self.assertEqual(pairs[0], (one, other))
        ones, others = reference.returns(one), reference.returns(other)
        for pair in pairs:
            self.assertIs(type(pair), tuple)
            self.assertEqual(len(pair), 2)
            self.assertIn(pair[0], ones)
            self.assertIn(pair[1], others)
            self.assertTrue(reference.can_be_paired(*pair, pairs))
        return told

    def test_mirrored_ones(self):
        for one, other in PAIRED:
            with self.subTest(one=one, other=other):
                self.assertEqual(self.check(one, other)[0], "mirrored")
                self.assertEqual(self.check(other, one)[0], "mirrored")

    def test_parted_ones(self):
        for one, other, length in PARTED:
            with self.subTest(one=one, other=other):
                self.assertEqual(mirrored(one, other), ("parted", length))
                self.assertEqual(mirrored(other, one), ("parted", length))

    def test_far_down(self):
        # Where two doings' returns are sixteen, and neither's marks stand as the other's.
        for one, other, length in ((MARKED_14, MARKED_13, 27), (chain(2, 16), chain(2, 1), 15)):
            self.assertEqual(mirrored(one, other), ("parted", length))
            self.assertEqual(reference.parted(one, other), length)

    def test_the_returns_of_the_one_and_the_other_are_in_their_places(self):
        told = mirrored(ADDING, TAKING)
        self.assertEqual(told, ("mirrored", [(ADDING, TAKING)]))
        self.assertEqual(mirrored(TAKING, ADDING), ("mirrored", [(TAKING, ADDING)]))

    def test_many_pairs(self):
        seen = {}
        for one, other in SOME_PAIRS:
            told = self.check(one, other)
            seen[told[0]] = seen.get(told[0], 0) + 1
        self.assertGreater(min(seen["mirrored"], seen["parted"]), 100)

    def test_itself_and_its_back(self):
        for letters in (2, 3, 4):
            for doing in held_doings(letters, 20, 520 + letters):
                self.assertEqual(self.check(doing, doing)[0], "mirrored")
                if reference.returns(reference.back(doing)) is not None:
                    self.assertEqual(self.check(doing, reference.back(doing))[0], "mirrored")

    def test_trees_and_homes_of_mirrored_ones_are_alike(self):
        for one, other in SOME_PAIRS[::7]:
            told = mirrored(one, other)
            longest = {2: 8, 3: 5, 4: 4}[one[0]]
            alike = [tree(one, length) == tree(other, length) for length in range(longest + 1)]
            if told[0] == "mirrored":
                self.assertEqual(alike, [True] * (longest + 1))
                self.assertEqual(homes_of(one, 9), homes_of(other, 9))
            else:
                self.assertEqual(alike, [length < told[1] for length in range(longest + 1)])

    def test_too_many(self):
        barred = {2: (SEVENTEEN_RETURNS[0], SIXTEEN_ALONG[0][0]), 3: (SEVENTEEN_RETURNS[1], SMALL_BEHIND)}
        for letters, doings in barred.items():
            for doing in doings:
                for pair in ((doing, idle(letters)), (idle(letters), doing), (doing, doing), doings):
                    self.assertIs(told_by(mirrored, *pair), TooMany)
        for letters in (2, 3, 4):
            doings = some_doings(letters, 25, 530 + letters)
            for one, other in product(doings, doings[::3]):
                refused = TooMany if None in (reference.returns(one), reference.returns(other)) else None
                self.assertIs(told_by(mirrored, one, other), refused)
        for doing in SIXTEEN_RETURNS:
            self.assertEqual(self.check(doing, doing)[0], "mirrored")


class MirrorTest(unittest.TestCase):
    def test_to_the_sign(self):
        for one, other in PAIRED:
            for word in words_to(one[0], {2: 6, 3: 4, 4: 3}[one[0]]):
                self.assertEqual(mirror(one, other, word), reference.mirror(one, other, word))

    def test_to_the_sign_of_many(self):
        many = 0
        for one, other in SOME_PAIRS[::2]:
            if reference.parted(one, other) is None:
                many += 1
                for word in words_to(one[0], {2: 4, 3: 3, 4: 2}[one[0]]):
                    self.assertEqual(mirror(one, other, word), reference.mirror(one, other, word))
        self.assertGreater(many, 100)

    def test_by_hand(self):
        for one, other, word, told in (
            (ADDING, TAKING, (), ()), (ADDING, TAKING, (0,), (0,)), (ADDING, TAKING, (1, 0), (1, 1)),
            (ADDING, TAKING, (0, 1, 1, 0), (0, 1, 0, 1)), (ADDING, ADDING, (1, 0, 1), (1, 0, 1)),
            (ADDING_3, ADDS_BACK_3, (1,), (2,)), (ADDING_3, ADDS_BACK_3, (0, 2), (0, 1)),
            (standing((0, 1), (ADDING, ONE_STATE)), standing((0, 1), (ONE_STATE, TAKING)), (0, 1, 0), (1, 1, 1)),
            (standing((0, 1), (ADDING, ONE_STATE)), standing((0, 1), (ONE_STATE, TAKING)), (1, 1, 0), (0, 1, 0)),
            # Letters 1 and 3 are added one to, and so, in their order, are 2 and 0 of the other.
            (standing((1, 0, 2, 3), (idle(4), ADDS_4, SHORT_4, ADDS_4)),
             standing((0, 1, 3, 2), (ADDS_BACK_4, SHORT_4, ADDS_4, idle(4))), (0,), (2,)),
        ):
            with self.subTest(one=one, other=other, word=word):
                self.assertEqual(mirror(one, other, word), told)

    def test_it_leads_the_one_into_the_other(self):
        for one, other in PAIRED + tuple(SOME_PAIRS[::5]):
            if reference.parted(one, other) is not None:
                continue
            for length in range({2: 6, 3: 4, 4: 3}[one[0]]):
                images = {}
                for word in product(range(one[0]), repeat=length):
                    image = mirror(one, other, word)
                    self.assertIs(type(image), tuple)
                    self.assertEqual(mirror(one, other, does(one, word)), does(other, image))
                    self.assertEqual(image[:-1], mirror(one, other, word[:-1]))
                    images[image] = True
                self.assertEqual(len(images), one[0] ** length)

    def test_it_comes_round(self):
        numbers = Numbers(61)
        for one, other in PAIRED + tuple(SOME_PAIRS[::5]):
            if reference.parted(one, other) is not None:
                continue
            for length in (1, 2, 3, 5, 30):
                word = numbers.word(one[0], length)
                self.assertEqual(mirror(one, one, word), word)
                self.assertEqual(mirror(other, one, mirror(one, other, word)), word)

    def test_one_behind_another(self):
        numbers = Numbers(62)
        many = 0
        for letters in (2, 3, 4):
            doings = held_doings(letters, 12, 540 + letters)
            for doing, by, and_by in product(doings, doings[::2], doings[::3]):
                second, third = turned_by(doing, by), turned_by(doing, and_by)
                if second is not None and third is not None:
                    many += 1
                    for length in (1, 2, 6, 25):
                        word = numbers.word(letters, length)
                        self.assertEqual(
                            mirror(second, third, mirror(doing, second, word)), mirror(doing, third, word)
                        )
        self.assertGreater(many, 100)

    def test_long_words(self):
        numbers = Numbers(63)
        pairs = PAIRED + tuple([(doing, reference.back(doing)) for doing in SIXTEEN_RETURNS])
        for one, other in pairs:
            self.assertIs(reference.parted(one, other), None)
            for length in (61, 150, 200):
                word = numbers.word(one[0], length)
                image = mirror(one, other, word)
                self.assertEqual(image, reference.mirror(one, other, word))
                self.assertEqual(mirror(one, other, does(one, word)), does(other, image))
                self.assertEqual(mirror(other, one, image), word)
                self.assertEqual(mirror(one, other, word[:37]), image[:37])
                self.assertEqual(homes(one, word), homes(other, image))

    def test_returns_of_unlike_many(self):
        # The one has more returns than the other, but no more trees.
        one, other = standing((0, 1), (ADDING, TAKING)), standing((0, 1), (ADDING, ADDING))
        self.assertNotEqual(len(returns(one)), len(returns(other)))
        for word in words_to(2, 6):
            self.assertEqual(mirror(one, other, word), reference.mirror(one, other, word))
            self.assertEqual(mirror(other, one, word), reference.mirror(other, one, word))


class RefusalTest(unittest.TestCase):
    def test_no_doing(self):
        for doing in NO_DOINGS + ODD_THINGS + (ALESHIN,):
            for beside in (ADDING, idle(3), None, SEVENTEEN_RETURNS[0]):
                for pair in ((doing, beside), (beside, doing)):
                    self.assertIs(told_by(mirrored, *pair), NoDoing)
                    self.assertIs(told_by(Walk, *pair), NoDoing)
                    for word in ((), (0,), (9,), None):
                        self.assertIs(told_by(mirror, *pair, word), NoDoing)

    def test_no_word(self):
        for one, other in ((ADDING, ADDING), (ADDING, idle(3)), (ADDING, ONE_STATE), (ADDING, SEVENTEEN_RETURNS[0])):
            for word in NO_WORDS:
                self.assertIs(told_by(mirror, one, other, word), NoWord)
        # By the one's letters.
        for letter, refused in ((2, NoWord), (1, NoFit), (0, NoFit), (3, NoWord), (-1, NoWord)):
            self.assertIs(told_by(mirror, ADDING, idle(3), (0, letter)), refused)
        for letter, refused in ((2, NoFit), (1, NoFit), (3, NoWord)):
            self.assertIs(told_by(mirror, idle(3), ADDING, (0, letter)), refused)
        self.assertIs(told_by(mirror, ADDING, ADDING, (1,) * 200), None)
        self.assertIs(told_by(mirror, ADDING, ADDING, (1,) * 201), NoWord)

    def test_no_fit(self):
        doings = (ADDING, SEVENTEEN_RETURNS[0], idle(3), SMALL_BEHIND, idle(4), ROUND_AND_ROUND)
        for one, other in product(doings, doings):
            if one[0] != other[0]:
                self.assertIs(told_by(mirrored, one, other), NoFit)
                self.assertIs(told_by(mirror, one, other, (0,)), NoFit)
                self.assertIs(told_by(Walk, one, other), NoFit)

    def test_too_many(self):
        for one, other in (
            (SEVENTEEN_RETURNS[0], ADDING), (ADDING, SEVENTEEN_RETURNS[0]), (SMALL_BEHIND, SMALL_BEHIND),
            (idle(3), SMALL_BEHIND), (ROUND_AND_ROUND, idle(4)), (SIXTEEN_ALONG[0][0], SEVENTEEN_RETURNS[0]),
        ):
            for word in ((), (0,), (0, 1, 0)):
                self.assertIs(told_by(mirror, one, other, word), TooMany)
            self.assertIs(told_by(Walk, one, other), TooMany)

    def test_no_mirror(self):
        for one, other, _ in PARTED:
            for word in ((), (0,), (1,) * 200):
                self.assertIs(told_by(mirror, one, other, word), NoMirror)
                self.assertIs(told_by(mirror, other, one, word), NoMirror)
            self.assertIs(told_by(Walk, one, other), NoMirror)
            self.assertIs(told_by(Walk, other, one), NoMirror)

    def test_several_at_once(self):
        for one, other, word in product(
            (ADDING, None, idle(3), SMALL_BEHIND, SEVENTEEN_RETURNS[0], SWELLING),
            (ADDING, [], idle(3), SMALL_BEHIND, ONE_STATE), ((0,), (2,), None, (3,)),
        ):
            refused = first_refusal(
                NoDoing if one is None or other == [] else None,
                NoWord if one is not None and not is_word(one[0], word) else None,
            )
            if refused is None:
                fit = one[0] == other[0]
                held = fit and None not in (reference.returns(one), reference.returns(other))
                refused = NoFit if not fit else TooMany if not held else None
                if refused is None and reference.parted(one, other) is not None:
                    refused = NoMirror
            self.assertIs(told_by(mirror, one, other, word), refused)


def is_word(letters, word):
    return word is not None and all(letter < letters for letter in word)


class NothingChangesTest(unittest.TestCase):
    def test_what_is_handed_in_stays_as_it_is(self):
        for thing in ODD_THINGS + NO_DOINGS + NO_WORDS + NO_LENGTHS:
            before = deepcopy(thing)
            for beside in (thing, ADDING):
                told_by(tree, beside, thing)
                told_by(mirrored, thing, beside)
                told_by(mirrored, beside, thing)
                told_by(mirror, beside, beside, thing)
                told_by(mirror, thing, beside, (0,))
            self.assertEqual(thing, before)

    def test_told_lists_are_new_ones(self):
        for one, other in PAIRED:
            told = mirrored(one, other)
            before = deepcopy(told)
            told[1].reverse()
            told[1].append("changed")
            self.assertEqual(mirrored(one, other), before)
            self.assertEqual(mirrored(*deepcopy((one, other))), before)
            told[1].clear()
            self.assertEqual(mirrored(one, other), before)
            self.assertEqual(mirror(one, other, (0, 1, 1)), mirror(*deepcopy((one, other)), (0, 1, 1)))


if __name__ == "__main__":
    unittest.main()
