import unittest
from copy import deepcopy
from itertools import product

from homerounds.doings import does, idle
from homerounds.errors import NoDoing, NoNumber, NoWord, TooMany
from homerounds.homes import endless, home, homes, homes_of
from tests import reference
from tests.samples import (
    ADDING, ALESHIN, GRIGORCHUK, GUPTA_SIDKI, MARKED_13, MARKED_14, MORE_ALONG, NO_DOINGS, NO_LENGTHS, NO_WORDS,
    ODD_THINGS, ONE_STATE, ROUND_AND_ROUND, SEVENTEEN_RETURNS, SIXTEEN_ALONG, SIXTEEN_RETURNS, SMALL_BEHIND, SWELLING,
    Numbers, chain, first_refusal, held_doings, or_too_many, some_doings, told_by, words_to,
)

A_B = reference.row_doing(GRIGORCHUK, (0, 1))
A_T = reference.row_doing(GUPTA_SIDKI, (0, 1))
# Letters go round in fours and in threes, now so and now so, and 0 to 2 of 3 come home at unlike times.
FOURS_AND_THREES = (4, (((1, 2, 3, 0), (1, 2, 2, 2)), ((1, 2, 0, 3), (0, 2, 2, 0)), ((0, 1, 2, 3), (2, 2, 2, 2))))
OF_MANY_HOMES = reference.least(4, reference.doing_chain((4, (
    ((0, 1, 2, 3), (0, 1, 2, 3)), ((1, 2, 3, 0), (0, 4, 4, 4)), ((1, 2, 0, 3), (0, 4, 4, 0)),
    ((1, 0, 2, 3), (0, 4, 1, 2)),
    ((0, 1, 2, 3), (4, 4, 4, 4)),
))))
SMALL_AHEAD = reference.least(3, reference.doing_chain((3, (((0, 1, 2), (1, 6, 6)),) + tuple([
    (turns, tuple([number + 1 for number in nexts])) for turns, nexts in SMALL_BEHIND[1]
]))))


class HomeTest(unittest.TestCase):
    def check_word(self, doing, word):
        """Of a word that may be turned again and again in little time."""
        told = [reference.home(doing, word[:many]) for many in range(len(word) + 1)]
        self.assertEqual(homes(doing, word), told)
        self.assertEqual(home(doing, word), told[-1])

    def test_by_hand(self):
        for doing, word, told in (
            (ADDING, (), [1]), (ADDING, (0,), [1, 2]), (ADDING, (1, 1, 0), [1, 2, 4, 8]),
            (idle(2), (0, 1, 0), [1, 1, 1, 1]), (idle(4), (), [1]), (ONE_STATE, (1, 0, 0), [1, 2, 2, 2]),
            (chain(2, 4), (0, 1, 1, 0), [1, 1, 1, 2, 2]), (chain(3, 3), (2, 0, 2), [1, 1, 2, 2]),
            (FOURS_AND_THREES, (0, 3, 2), [1, 4, 4, 16]), (FOURS_AND_THREES, (0, 0), [1, 4, 12]),
            (ROUND_AND_ROUND, (2,), [1, 4]), (SMALL_BEHIND, (0,), [1, 2]), (SMALL_BEHIND, (2,), [1, 1]),
        ):
            with self.subTest(doing=doing, word=word):
                self.assertEqual(homes(doing, word), told)
                self.assertEqual(home(doing, word), told[-1])

    def test_against_words_turned_again_and_again(self):
        for doing in (ADDING, A_B, ONE_STATE, chain(2, 6), MARKED_13) + SIXTEEN_RETURNS[:1]:
            for word in words_to(2, 6):
                self.check_word(doing, word)
        for doing in (A_T, chain(3, 5), FOURS_AND_THREES, idle(4)) + SIXTEEN_RETURNS[1:]:
            for word in words_to(doing[0], 3):
                self.check_word(doing, word)

    def test_many_doings_against_words_turned_again_and_again(self):
        for letters, length in ((2, 6), (3, 4), (4, 3)):
            for doing in held_doings(letters, 25, 90 + letters):
                for word in words_to(letters, length):
                    self.check_word(doing, word)

    def test_just_where_the_returns_ahead_are_held(self):
        refused = told_at_the_end = 0
        for letters in (2, 3, 4):
            for doing in some_doings(letters, 25, 50 + letters):
                for word in words_to(letters, 3):
                    along = reference.returns_along(doing, word)
                    if None in along[:-1]:
                        self.assertIs(told_by(home, doing, word), TooMany)
                        self.assertIs(told_by(homes, doing, word), TooMany)
                        refused += 1
                    else:
                        self.check_word(doing, word)
                        told_at_the_end += along[-1] is None
        self.assertGreater(refused, 100)
        self.assertGreater(told_at_the_end, 100)

    def test_not_of_the_word_itself(self):
        for doing, word, many in (
            (SMALL_BEHIND, (0,), 2), (SMALL_BEHIND, (1,), 2), (ROUND_AND_ROUND, (3,), 4), (SMALL_AHEAD, (0, 0), 2),
            (SMALL_AHEAD, (0, 1), 2),
        ):
            self.assertIs(reference.returns_along(doing, word)[-1], None)
            self.assertEqual(home(doing, word), many)
            self.assertEqual(homes(doing, word)[-1], many)
            for letter in range(doing[0]):
                for longer in (word + (letter,), word + (letter,) * 3, word + (letter,) * 150):
                    self.assertIs(told_by(home, doing, longer), TooMany)
                    self.assertIs(told_by(homes, doing, longer), TooMany)
        # Of other words these returns aren't asked for.
        self.assertEqual(homes(SMALL_BEHIND, (2, 1)), [1, 1, reference.home(SMALL_BEHIND, (2, 1))])

    def test_more_returns_than_are_told_are_no_bar(self):
        for doing, lead, ring in MORE_ALONG + SIXTEEN_ALONG:
            word = (lead + ring * 60)[:200]
            self.assertEqual(homes(doing, word), reference.homes(doing, word))
            self.assertEqual(home(doing, word), reference.homes(doing, word)[-1])
        for doing in SEVENTEEN_RETURNS:
            for word in words_to(doing[0], 4):
                self.check_word(doing, word)

    def test_long_words(self):
        numbers = Numbers(41)
        for doing in (ADDING, A_B, A_T, FOURS_AND_THREES, OF_MANY_HOMES, MARKED_14) + SIXTEEN_RETURNS:
            for length in (60, 199, 200):
                word = numbers.word(doing[0], length)
                told = homes(doing, word)
                self.assertEqual(told, reference.homes(doing, word))
                self.assertEqual(len(told), length + 1)
                self.assertEqual(home(doing, word), told[-1])
                for many in (0, 1, 17, 150):
                    self.assertEqual(homes(doing, word[:many]), told[:many + 1][:length + 1])
        self.assertEqual(home(ADDING, (1,) * 200), 2 ** 200)
        self.assertEqual(homes(ADDING, (0, 1) * 100), [2 ** many for many in range(201)])

    def test_each_word_of_a_round_has_the_same_home(self):
        numbers = Numbers(43)
        for doing in (A_B, FOURS_AND_THREES, OF_MANY_HOMES):
            word = numbers.word(doing[0], 120)
            told = homes(doing, word)
            for _ in range(5):
                word = does(doing, word)
                self.assertEqual(homes(doing, word), told)


class EndlessTest(unittest.TestCase):
    def test_by_hand(self):
        for doing, lead, ring, told in (
            (ADDING, (), (0,), ("never",)), (ADDING, (1, 1), (1, 0), ("never",)), (idle(2), (), (1,), ("home", 1)),
            (ONE_STATE, (), (0,), ("home", 2)), (ONE_STATE, (0, 1), (0,), ("home", 2)),
            (chain(2, 5), (), (1, 0), ("home", 2)), (chain(2, 16), (), (0,), ("home", 2)),
            (chain(4, 16), (3,) * 200, (2,) * 200, ("home", 2)), (idle(3), (0,) * 200, (2, 1) * 100, ("home", 1)),
            (FOURS_AND_THREES, (), (0, 3), ("never",)), (FOURS_AND_THREES, (0, 3), (0, 0, 3, 3), ("never",)),
            (FOURS_AND_THREES, (), (1,), ("never",)),
        ):
            with self.subTest(doing=doing, lead=lead, ring=ring):
                self.assertEqual(endless(doing, lead, ring), told)

    def test_against_long_beginnings(self):
        seen = {}
        for letters, many in ((2, 40), (3, 25), (4, 15)):
            for doing in some_doings(letters, many, 60 + letters) + held_doings(letters, many, 70 + letters):
                for lead, ring in product(words_to(letters, 1), words_to(letters, 2)[1:]):
                    told = or_too_many(endless, doing, lead, ring)
                    self.assertEqual(told, reference.endless(doing, lead, ring))
                    seen[told and told[0]] = seen.get(told and told[0], 0) + 1
        self.assertGreater(min(seen["home"], seen["never"], seen[None]), 100)

    def test_the_home_of_all_long_beginnings(self):
        numbers = Numbers(44)
        for doing in (A_B, A_T, MARKED_13, ONE_STATE, chain(3, 9), reference.row_doing(GRIGORCHUK, (3,))):
            for _ in range(25):
                lead = numbers.word(doing[0], numbers.below(20))
                ring = numbers.word(doing[0], numbers.within(1, 20))
                told = endless(doing, lead, ring)
                self.assertEqual(told, reference.endless(doing, lead, ring))
                if told[0] == "home":
                    word = (lead + ring * 200)[:200]
                    self.assertEqual(home(doing, word[:100]), told[1])
                    self.assertEqual(home(doing, word), told[1])

    def test_long_leads_and_rings(self):
        numbers = Numbers(45)
        for doing in (A_B, A_T, MARKED_14, OF_MANY_HOMES, SIXTEEN_RETURNS[0], SIXTEEN_RETURNS[1], ADDING):
            for _ in range(3):
                lead, ring = numbers.word(doing[0], 200), numbers.word(doing[0], 200)
                self.assertEqual(endless(doing, lead, ring), reference.endless(doing, lead, ring))
        # Turned is one letter alone, that stands behind many that aren't: each further round of the ring makes home.
        far = marked_far()
        self.assertEqual(endless(far, (), (0,)), ("home", 1))
        self.assertEqual(endless(far, (0,) * 200, (0,) * 200), ("home", 1))

    def test_the_ring_is_done_many_times_ahead_of_its_return_coming_again(self):
        # Of fourteen zeros the last one's place is turned: a ring of so many is done, then all is as ahead.
        for doing, many in ((MARKED_14, 14), (MARKED_13, 13)):
            for zeros in range(1, 40):
                ring = (0,) * zeros + (1, 0)
                self.assertEqual(endless(doing, (), ring), reference.endless(doing, (), ring))
            self.assertEqual(endless(doing, (0,) * many, (0,)), ("home", 1))
        self.assertEqual(endless(chain(2, 16), (), (0, 1, 1)), ("home", 2))
        self.assertEqual(endless(back_ring(), (), (0,)), ("never",))
        self.assertEqual(endless(back_ring(), (0,) * 11, (0, 0)), ("never",))
        self.assertEqual(endless(back_ring(), (), (1,)), ("home", 1))

    def test_just_sixteen_returns_and_one_more(self):
        for doing, lead, ring in SIXTEEN_ALONG:
            self.assertEqual(len(set(reference.returns_along(doing, lead + ring * 20))), 16)
            self.assertEqual(endless(doing, lead, ring), ("never",))
            self.assertEqual(endless(doing, lead + ring, ring * 3), ("never",))
        for doing, lead, ring in MORE_ALONG:
            along = reference.returns_along(doing, lead + ring * 40)
            self.assertNotIn(None, along)
            self.assertIs(told_by(endless, doing, lead, ring), TooMany)
            self.assertIs(told_by(endless, doing, lead + ring, ring * 3), TooMany)
        self.assertEqual(len(set(reference.returns_along(MORE_ALONG[0][0], (1,) + (0, 1, 0) * 60))), 17)
        for letters in (2, 3, 4):
            for letter in (0, letters - 1):
                self.assertEqual(endless(chain(letters, 16), (), (letter,)), ("home", 2))

    def test_returns_on_the_lead_count_too(self):
        numbers = Numbers(46)
        seen = {}
        for doing in [doing for doing, _, _ in SIXTEEN_ALONG + MORE_ALONG] + list(SEVENTEEN_RETURNS):
            for length in (1, 2, 3, 5, 8, 13, 21, 60, 200):
                for _ in range(3):
                    lead, ring = numbers.word(doing[0], length), numbers.word(doing[0], numbers.within(1, 3))
                    told = or_too_many(endless, doing, lead, ring)
                    self.assertEqual(told, reference.endless(doing, lead, ring))
                    seen[told and told[0]] = seen.get(told and told[0], 0) + 1
        self.assertGreater(min(seen["home"], seen["never"], seen[None]), 10)
        # On the lead there are seventeen already, and the ring goes round at the last one.
        doing, lead, ring = MORE_ALONG[0]
        long_lead = (lead + ring * 60)[:180]
        along = reference.returns_along(doing, long_lead)
        self.assertEqual(len(set(along)), 17)
        for letter in (0, 1):
            self.assertIs(told_by(endless, doing, long_lead, (letter,)), TooMany)

    def test_other_words_returns_are_not_asked_for(self):
        for doing in (SMALL_BEHIND, SMALL_AHEAD) + SEVENTEEN_RETURNS:
            self.assertIs(reference.returns(doing), None)
            for lead, ring in product(words_to(doing[0], 2), words_to(doing[0], 2)[1:]):
                self.assertEqual(or_too_many(endless, doing, lead, ring), reference.endless(doing, lead, ring))
        for lead, ring in (((), (0,)), ((0,), (2,)), ((), (1, 2))):
            self.assertIs(told_by(endless, SMALL_BEHIND, lead, ring), TooMany)
        self.assertIs(told_by(endless, SMALL_AHEAD, (), (0,)), TooMany)


def marked_far():
    """Where fifteen letters are 0 and then comes 1, the next letter is turned about."""
    return reference.least(2, reference.doing_chain((2, tuple(
        [((0, 1), (at + 1, 13)) for at in range(12)] + [((0, 1), (13, 14)), ((0, 1), (13, 13)), ((1, 0), (13, 13))]
    ))))


def back_ring():
    """Behind eleven zeros the next 0 is turned about with 1, and behind this all is as ahead."""
    states = [((0, 1), (at + 1, 12)) for at in range(11)] + [((1, 0), (0, 12)), ((0, 1), (12, 12))]
    return reference.least(2, reference.doing_chain((2, tuple(states))))


class HomesOfTest(unittest.TestCase):
    def test_by_hand(self):
        for doing, length, told in (
            (ADDING, 0, [(1, 1)]), (ADDING, 5, [(32, 32)]), (idle(3), 4, [(1, 81)]), (ONE_STATE, 3, [(2, 8)]),
            (chain(2, 4), 2, [(1, 4)]), (chain(2, 4), 3, [(2, 8)]), (FOURS_AND_THREES, 1, [(4, 4)]),
            (FOURS_AND_THREES, 2, [(4, 4), (12, 12)]), (ADDING, 200, [(2 ** 200, 2 ** 200)]),
            (idle(4), 200, [(1, 4 ** 200)]), (OF_MANY_HOMES, 1, [(1, 4)]),
        ):
            with self.subTest(doing=doing, length=length):
                self.assertEqual(homes_of(doing, length), told)

    def test_against_all_words(self):
        for letters, length in ((2, 6), (3, 4), (4, 3)):
            for doing in held_doings(letters, 30, 80 + letters):
                for many in range(length + 1):
                    told = [home(doing, word) for word in product(range(letters), repeat=many)]
                    self.assertEqual(homes_of(doing, many), sorted([(one, told.count(one)) for one in set(told)]))

    def test_against_words_counted_by_returns(self):
        for letters in (2, 3, 4):
            for doing in held_doings(letters, 15, 85 + letters):
                for many in (7, 12, 19):
                    told = homes_of(doing, many)
                    self.assertEqual(told, reference.homes_of(doing, many))
                    self.assertEqual(sum([words for _, words in told]), letters ** many)

    def test_long_words(self):
        for doing in (A_B, A_T, MARKED_13, FOURS_AND_THREES) + SIXTEEN_RETURNS:
            for length in (60, 199, 200):
                told = homes_of(doing, length)
                self.assertEqual(told, reference.homes_of(doing, length))
                self.assertEqual(sum([words for _, words in told]), doing[0] ** length)

    def test_many_homes(self):
        self.assertGreater(len(homes_of(OF_MANY_HOMES, 30)), 100)
        for length in (1, 2, 3, 30, 50):
            self.assertEqual(homes_of(OF_MANY_HOMES, length), reference.homes_of(OF_MANY_HOMES, length))
        told = homes_of(OF_MANY_HOMES, 200)
        self.assertEqual(sum([words for _, words in told]), 4 ** 200)
        self.assertEqual(told, sorted(told))
        self.assertEqual(len({many for many, _ in told}), len(told))
        self.assertTrue(all(words > 0 for _, words in told))

    def test_too_many_as_the_returns(self):
        for doing in SEVENTEEN_RETURNS + (SMALL_BEHIND, ROUND_AND_ROUND, SIXTEEN_ALONG[0][0]):
            for length in (0, 1, 5, 200):
                self.assertIs(told_by(homes_of, doing, length), TooMany)
        for doing in SIXTEEN_RETURNS:
            self.assertIs(told_by(homes_of, doing, 9), None)
        for letters in (2, 3, 4):
            for doing in some_doings(letters, 40, 20 + letters):
                self.assertEqual(or_too_many(homes_of, doing, 3), reference.homes_of(doing, 3))


class RefusalTest(unittest.TestCase):
    def test_no_doing(self):
        for doing in NO_DOINGS + ODD_THINGS + (ALESHIN,):
            for word in ((), (0,), None):
                self.assertIs(told_by(home, doing, word), NoDoing)
                self.assertIs(told_by(homes, doing, word), NoDoing)
                self.assertIs(told_by(endless, doing, word, ()), NoDoing)
                self.assertIs(told_by(endless, doing, (), word), NoDoing)
            for length in (0, 3, None, -1):
                self.assertIs(told_by(homes_of, doing, length), NoDoing)

    def test_no_word(self):
        for doing in (ADDING, SWELLING, A_B, SEVENTEEN_RETURNS[0]):
            for word in NO_WORDS:
                self.assertIs(told_by(home, doing, word), NoWord)
                self.assertIs(told_by(homes, doing, word), NoWord)
                for other in ((), (0,), (0, 1) * 100, word):
                    self.assertIs(told_by(endless, doing, word, other), NoWord)
                    self.assertIs(told_by(endless, doing, other, word), NoWord)
        for letters in (2, 3, 4):
            for letter in range(-2, 6):
                refused = None if 0 <= letter < letters else NoWord
                self.assertIs(told_by(home, idle(letters), (0, letter)), refused)
                self.assertIs(told_by(homes, idle(letters), (letter,)), refused)
                self.assertIs(told_by(endless, idle(letters), (letter,), (0,)), refused)
                self.assertIs(told_by(endless, idle(letters), (0,), (1, letter)), refused)

    def test_an_empty_ring_is_no_word(self):
        for doing in (ADDING, SMALL_BEHIND, SEVENTEEN_RETURNS[0], ROUND_AND_ROUND):
            for lead in ((), (0,), (0, 1) * 100, (0,) * 30):
                self.assertIs(told_by(endless, doing, lead, ()), NoWord)

    def test_to_two_hundred_letters(self):
        for deed in (home, homes):
            self.assertIs(told_by(deed, ADDING, (0,) * 200), None)
            self.assertIs(told_by(deed, ADDING, (0,) * 201), NoWord)
        for lead, ring in ((201, 1), (1, 201), (201, 201)):
            self.assertIs(told_by(endless, idle(2), (0,) * lead, (0,) * ring), NoWord)
        self.assertIs(told_by(endless, idle(2), (0,) * 200, (0,) * 200), None)

    def test_words_ahead_of_too_many(self):
        self.assertIs(told_by(home, ROUND_AND_ROUND, (0, 4)), NoWord)
        self.assertIs(told_by(homes, ROUND_AND_ROUND, (0, 0, 4)), NoWord)
        self.assertIs(told_by(home, ROUND_AND_ROUND, (0, 3)), TooMany)
        self.assertIs(told_by(endless, ROUND_AND_ROUND, (0,), (0, 4)), NoWord)
        self.assertIs(told_by(endless, ROUND_AND_ROUND, (0,), (0,)), TooMany)

    def test_no_number(self):
        for doing in (ADDING, SMALL_BEHIND, SEVENTEEN_RETURNS[0]):
            for length in NO_LENGTHS:
                self.assertIs(told_by(homes_of, doing, length), NoNumber)
        for length in range(-3, 205):
            self.assertIs(told_by(homes_of, ONE_STATE, length), None if 0 <= length <= 200 else NoNumber)

    def test_several_at_once(self):
        for doing, lead, ring in product((ADDING, ALESHIN, None), ((0,), (2,), None), ((1,), (), [0])):
            refused = first_refusal(
                None if doing == ADDING else NoDoing, None if lead == (0,) else NoWord,
                None if ring == (1,) else NoWord,
            )
            self.assertIs(told_by(endless, doing, lead, ring), refused)


class NothingChangesTest(unittest.TestCase):
    def test_what_is_handed_in_stays_as_it_is(self):
        for thing in ODD_THINGS + NO_DOINGS + NO_WORDS + NO_LENGTHS:
            before = deepcopy(thing)
            for deed in (home, homes, homes_of):
                told_by(deed, thing, thing)
                told_by(deed, ADDING, thing)
            told_by(endless, ADDING, thing, thing)
            told_by(endless, thing, (), thing)
            self.assertEqual(thing, before)

    def test_told_lists_are_new_ones(self):
        for deed, handed_in in (
            (homes, (ADDING, ())), (homes, (ADDING, (0, 1, 1))), (homes_of, (ADDING, 3)), (homes_of, (A_B, 9)),
        ):
            told = deed(*handed_in)
            self.assertIs(type(told), list)
            before = list(told)
            told.reverse()
            told.append("changed")
            self.assertEqual(deed(*handed_in), before)
            self.assertEqual(deed(*deepcopy(handed_in)), before)
            told.clear()
            self.assertEqual(deed(*handed_in), before)
        for one in homes_of(A_B, 9):
            self.assertIs(type(one), tuple)


if __name__ == "__main__":
    unittest.main()
