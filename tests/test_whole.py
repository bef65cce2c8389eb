"""The promise over the whole program: of every machine, every row there and back, every history of a house."""

import unittest
from itertools import product

from homerounds.cores import core, depth
from homerounds.doings import back, behind, doing_of, does, first_unlike, idle, is_doing, joined, times
from homerounds.errors import TooMany, TurnError
from homerounds.homes import endless, home, homes, homes_of
from homerounds.house import House
from homerounds.levels import rounds
from homerounds.lively import kind, lively
from homerounds.looker import look
from homerounds.mirrors import Walk, mirror, mirrored, tree
from homerounds.oneround import one_round
from homerounds.orders import order
from homerounds.returns import return_at, return_behind, returns, round_of
from homerounds.rows import row_turned
from tests import reference, reference_looker
from tests.samples import (
    ADDING, ALESHIN, BASILICA, CORES_OF_SIXTEEN, GRIGORCHUK, GUPTA_SIDKI, ONE_STATE, THREE, Numbers, or_too_many,
    small_machines, some_machines, words_to,
)

LONGEST = {2: 6, 3: 4, 4: 3}
MACHINES = (ADDING, ONE_STATE, GRIGORCHUK, GUPTA_SIDKI, BASILICA, ALESHIN, THREE) + CORES_OF_SIXTEEN


def some_rows():
    """Machines with rows of theirs, and the rows' doings where these are held and their returns are told."""
    numbers = Numbers(1001)
    told = []
    for machine in MACHINES * 4 + tuple(some_machines(60, 1002) + small_machines()[::8]):
        row = numbers.row(machine, 4)
        doing = reference.row_doing(machine, row)
        if doing is not None and reference.returns(doing) is not None:
            told.append((machine, row, doing))
    return told


SOME_ROWS = some_rows()


class PromiseTest(unittest.TestCase):
    def test_there_are_enough(self):
        self.assertGreater(len(SOME_ROWS), 60)
        self.assertEqual({machine[0] for machine, _, _ in SOME_ROWS}, {2, 3, 4})

    def test_each_words_home_is_told_ahead(self):
        for machine, row, doing in SOME_ROWS:
            self.assertEqual(doing_of(machine, row), doing)
            for length in range(LONGEST[machine[0]] + 1):
                counts = {}
                for one in rounds(doing, length):
                    counts[len(one)] = counts.get(len(one), 0) + len(one)
                    for word in one:
                        self.assertEqual(home(doing, word), len(one))
                        self.assertEqual(row_turned(machine, row, word), does(doing, word))
                self.assertEqual(homes_of(doing, length), sorted(counts.items()))

    def test_homes_of_long_words(self):
        numbers = Numbers(1003)
        for machine, _, doing in SOME_ROWS:
            word = numbers.word(machine[0], 200)
            told = homes(doing, word)
            self.assertEqual(told, reference.homes(doing, word))
            lead, ring = word[:20], word[20:25]
            ended = endless(doing, lead, ring)
            if ended[0] == "home":
                self.assertEqual(home(doing, lead + ring * 36), ended[1])
            # Done as often as its home tells, the word is itself again; behind it stands the return.
            if told[6] <= 64:
                done = or_too_many(times, doing, told[6])
                if done is not None:
                    self.assertEqual(does(done, word[:6]), word[:6])
                    self.assertEqual(behind(done, word[:6]), return_behind(doing, word[:6]))

    def test_the_order_or_two_words_and_never_both(self):
        seen = {}
        for machine, _, doing in SOME_ROWS:
            told = order(doing)
            seen[told[0]] = seen.get(told[0], 0) + 1
            self.assertEqual(look((told[0], doing, *told[1:])), ("right",))
            words = words_to(machine[0], LONGEST[machine[0]])
            if told[0] == "order":
                for word in words:
                    self.assertEqual(told[1] % home(doing, word), 0)
                self.assertEqual(look(("none", doing, (), (0,))), reference_looker.look(("none", doing, (), (0,))))
                for u, v in product(words[:12], words[1:12]):
                    self.assertNotEqual(look(("none", doing, u, v)), ("right",))
                if told[1] <= 64 and or_too_many(times, doing, told[1]) is not None:
                    self.assertEqual(times(doing, told[1]), idle(machine[0]))
            else:
                _, u, v = told
                self.assertEqual(endless(doing, u, v), ("never",))
                self.assertLess(home(doing, u), home(doing, u + v * 3))
        self.assertGreater(min(seen.values()), 15)

    def test_returns_are_closed(self):
        for machine, _, doing in SOME_ROWS:
            every = returns(doing)
            self.assertEqual(every, reference.returns(doing))
            for one, letter in product(every, range(machine[0])):
                self.assertIn(return_at(one, letter), every)
                self.assertIn(letter, round_of(one, letter))

    def test_mirrors_and_partings(self):
        seen = {}
        for (machine, _, one), (_, _, other) in product(SOME_ROWS, SOME_ROWS[::6]):
            if other[0] != machine[0]:
                continue
            told = mirrored(one, other)
            seen[told[0]] = seen.get(told[0], 0) + 1
            self.assertEqual(look((told[0], one, other, told[1])), ("right",))
            longest = LONGEST[machine[0]]
            alike = [tree(one, length) == tree(other, length) for length in range(longest + 1)]
            if told[0] == "parted":
                self.assertEqual(alike, [length < told[1] for length in range(longest + 1)])
                self.assertRaises(TurnError, mirror, one, other, ())
                continue
            self.assertNotIn(False, alike)
            # Never both: no n parts them.
            for length in (1, 2, 32, 200):
                self.assertEqual(look(("parted", one, other, length)), ("wrong", 1))
        self.assertGreater(min(seen.values()), 50)

    def test_the_mirror_word_by_word(self):
        numbers = Numbers(1004)
        many = 0
        for (machine, _, one), (_, _, other) in product(SOME_ROWS, SOME_ROWS):
            if other[0] == machine[0] and one != other and mirrored(one, other)[0] == "mirrored":
                many += 1
                word = numbers.word(machine[0], 12)
                image = mirror(one, other, word)
                self.assertEqual(mirror(one, other, word), image)
                self.assertEqual(mirror(one, other, does(one, word)), does(other, image))
                self.assertEqual(mirror(other, one, image), word)
                self.assertEqual(mirror(one, one, word), word)
                self.assertEqual(home(one, word), home(other, image))
                walk = Walk(one, other)
                for at, letter in enumerate(word):
                    self.assertEqual(walk.feed(letter), image[at])
                fork = walk.fork()
                walk.take_back(6)
                for letter in does(one, word)[6:]:
                    walk.feed(letter)
                self.assertEqual(walk.image(), mirror(one, other, word[:6] + does(one, word)[6:]))
                self.assertEqual((fork.word(), fork.image(), fork.home()), (word, image, home(one, word)))
        self.assertGreater(many, 15)

    def test_turned_by_a_rows_doing_they_are_mirrored(self):
        numbers = Numbers(1005)
        many = 0
        for machine, _, doing in SOME_ROWS:
            by = or_too_many(doing_of, machine, numbers.row(machine, 2))
            other = None if by is None else or_too_many(joined, back(by), doing)
            other = None if other is None else or_too_many(joined, other, by)
            if other is not None and or_too_many(returns, other) is not None:
                many += 1
                self.assertEqual(mirrored(doing, other)[0], "mirrored")
                self.assertEqual(mirrored(doing, back(doing))[0], "mirrored")
        self.assertGreater(many, 30)

    def test_how_lively_words_grow(self):
        for machine, _, doing in SOME_ROWS:
            told = kind(doing)
            counts = [lively(doing, length) for length in range(0, 201, 20)]
            if told[0] == "ends":
                self.assertEqual([many > 0 for many in counts], [length < told[1] for length in range(0, 201, 20)])
                self.assertEqual(lively(doing, told[1]), 0)
                if told[1] > 0:
                    self.assertGreater(lively(doing, told[1] - 1), 0)
            else:
                self.assertGreater(min(counts), 0)
                paper = ("power", doing, told[2]) if told[0] == "power" else ("doubles", doing, *told[1:])
                self.assertEqual(look(paper), ("right",))
            self.assertEqual(told[:2] if told[0] != "doubles" else told[:1], reference.kind_and_number(doing))

    def test_one_round_with_two_letters(self):
        seen = {}
        for machine, _, doing in SOME_ROWS:
            if machine[0] == 2:
                told = one_round(doing)
                seen[told[0]] = True
                for length in range(8):
                    one = home(doing, (0,) * length) == 2 ** length
                    self.assertEqual(one, told[0] == "one" or length < told[1])
        self.assertEqual(sorted(seen), ["one", "parted"])

    def test_all_rows_come_into_the_core(self):
        many = 0
        for machine, row, doing in SOME_ROWS:
            told = or_too_many(core, machine)
            if told is not None:
                many += 1
                length = depth(machine, row)
                for at in (length, length + 1):
                    for word in product(range(machine[0]), repeat=min(at, LONGEST[machine[0]])):
                        if at <= LONGEST[machine[0]]:
                            self.assertIn(behind(doing, word), told)
        self.assertGreater(many, 20)

    def test_histories_of_a_house(self):
        numbers = Numbers(1006)
        for machine in MACHINES + tuple(some_machines(15, 1007)):
            house, marked = House(machine), []
            house.put("one", numbers.row(machine, 4))
            house.put("other", numbers.row(machine, 4))
            for _ in range(6):
                marked.append((house.mark(), house.machine(), told_by_rows(house)))
                states, letters = len(machine[1]), machine[0]
                house.exchange(numbers.below(states), numbers.below(letters), numbers.below(letters))
                house.lead(numbers.below(states), numbers.below(letters), next_state=numbers.below(states))
                house.take_out("one")
                house.put("one", numbers.row(machine, 4))
                fresh = House(house.machine())
                for name in house.names():
                    fresh.put(name, house.row(name))
                self.assertEqual(told_by_rows(fresh), told_by_rows(house))
            for number, ahead, told in marked[::-1]:
                house.back(number)
                self.assertEqual(house.machine(), ahead)
                self.assertEqual(told_by_rows(house), told)

    def test_equal_doings_turn_all_words_alike(self):
        for (machine, row, one), (beside, _, other) in product(SOME_ROWS[::2], SOME_ROWS[::5]):
            if machine[0] == beside[0]:
                word = first_unlike(one, other)
                self.assertEqual(word is None, one == other)
                if word is not None:
                    self.assertNotEqual(does(one, word), does(other, word))
            self.assertIs(is_doing(one), True)


def or_refused(deed, *handed_in):
    try:
        return deed(*handed_in)
    except TooMany:
        return TooMany


def told_by_rows(house):
    """All that a house tells of its rows."""
    told = [house.names()]
    for name in house.names():
        told.append(house.row(name))
        told += [or_refused(deed, name) for deed in (house.doing, house.order, house.kind)]
        told.append(or_refused(house.home, name, (0, 1, 1, 0)))
        for other in house.names():
            told += [or_refused(deed, name, other) for deed in (house.unlike, house.mirrored)]
    return told


if __name__ == "__main__":
    unittest.main()
