import unittest
from copy import deepcopy
from itertools import permutations, product

from homerounds.cores import core
from homerounds.doings import back, behind, idle, joined
from homerounds.errors import NoDoing, NoFit, NoMachine, NoPaper, TooMany
from homerounds.lively import kind
from homerounds.looker import look
from homerounds.mirrors import mirrored
from homerounds.orders import order
from homerounds.returns import returns
from tests import reference, reference_looker
from tests.samples import (
    ADDING, ALESHIN, BASILICA, CORES_NOT_GROWN, CORES_OF_SEVENTEEN, CORES_OF_SIXTEEN, GRIGORCHUK, GUPTA_SIDKI, HUGE,
    MARKED_13, MARKED_14, NO_DOINGS, NO_MACHINES, NO_WORDS, ODD_THINGS, ONE_STATE, ROUND_AND_ROUND, SEVENTEEN_RETURNS,
    SIXTEEN_ALONG, SIXTEEN_RETURNS, SMALL_BEHIND, SWELLING, THREE, Numbers, chain, held_doings, nested, some_doings,
    some_machines, standing, told_by,
)
from tests.test_mirrors import ADDING_4, ADDS_4, ADDS_BACK_4, FIXED, PAIRED, PARTED, SHORT_4, SOME_PAIRS, TAKING

RIGHT = ("right",)
A, B, C, D, NOTHING = [reference.row_doing(GRIGORCHUK, (state,)) for state in range(5)]
A_B = reference.row_doing(GRIGORCHUK, (0, 1))
FLIPS = chain(2, 2)
TURNS_4 = standing((1, 2, 3, 0), (idle(4),) * 4)
ADDS, TAKES = ADDING, TAKING
AT_ONE = standing((0, 1), (idle(2), ADDING))
# Behind letter 0 it is SMALL_BEHIND, of which returns aren't held; else nothing is turned.
SMALL_AHEAD = standing((0, 1, 2), (SMALL_BEHIND, idle(3), idle(3)))
WORDS = {"order": 5, "none": 4, "mirrored": 4, "parted": 4, "power": 3, "doubles": 5, "core": 3}
OTHER_THINGS = ODD_THINGS + (idle(2), (idle(2), 1), [(idle(2), 1)], [(idle(2), idle(2))], [()], [((), (0,))], [(0,)])


def or_refused(deed, *handed_in):
    """What is told, or the class of the refusal."""
    try:
        return deed(*handed_in)
    except ValueError as e:
        return type(e)


def paper_of_order(doing):
    told = order(doing)
    return (told[0], doing, *told[1:])


def paper_of_kind(doing):
    """None where nothing is lively behind long words."""
    told = kind(doing)
    if told[0] == "ends":
        return None
    return ("power", doing, told[2]) if told[0] == "power" else ("doubles", doing, *told[1:])


def paper_of_mirror(one, other):
    told = mirrored(one, other)
    return (told[0], one, other, told[1])


def in_order_of_growth(machine):
    """The core, each but the idle doing behind one ahead of it that is done and then a state's."""
    left, told = core(machine), [idle(machine[0])]
    left.remove(told[0])
    while left:
        behind_them = [one for ahead in told for one in reference_looker.all_lasting(machine, ahead)]
        following = [one for one in left if one in behind_them][0]
        told.append(following)
        left.remove(following)
    return told


class LookerCase(unittest.TestCase):
    def check(self, paper):
        """What is told of a paper is what the words of the document tell of it."""
        told = or_refused(look, paper)
        expected = reference_looker.look(paper)
        if told != expected:
            self.fail((told, expected, paper))
        if type(told) is tuple:
            self.assertEqual([type(part) for part in told], [str] + [int] * (len(told) - 1))
        return told

    def expect(self, paper, told):
        """Told is this; by the document's words too."""
        self.assertEqual(or_refused(look, paper), told)
        self.assertEqual(reference_looker.look(paper), told)


class PaperTest(LookerCase):
    def test_no_paper(self):
        for thing in ODD_THINGS + (
            (), [], "", ADDING, "order", ["order", FLIPS, 2, [], []], ("order",), ("",), (("order",),),
        ):
            self.assertIs(told_by(look, thing), NoPaper)
        for word in (
            None, True, 0, "", "orders", "Order", "ORDER", "order ", "nones", "kind", "ends", "right", "wrong",
            "mirror",
            "home", "never", ["order"], ("order",), [], (), ["core"], HUGE, b"order", nested(7), ADDING, {}.get(0),
        ):
            for parts in range(6):
                for part in (ADDING, None, 2):
                    self.assertIs(told_by(look, (word,) + (part,) * parts), NoPaper)

    def test_so_many_parts(self):
        for word, many in WORDS.items():
            for parts in range(1, 9):
                for part in (ADDING, None, [], idle(3), (2, ())):
                    told = or_refused(look, (word,) + (part,) * (parts - 1))
                    self.assertEqual(told is NoPaper, parts != many)
                    self.check((word,) + (part,) * (parts - 1))
        for paper in (("power", ADDING, [((), (1,))]), paper_of_order(FLIPS), ("core", ADDING, [idle(2)])):
            self.assertIs(told_by(look, list(paper)), NoPaper)
            self.assertIs(told_by(look, paper + (None,)), NoPaper)
            self.assertIs(told_by(look, paper[:-1]), NoPaper)
            self.assertIs(told_by(look, (paper,)), NoPaper)

    def test_no_doing_and_no_machine(self):
        for thing in NO_DOINGS + ODD_THINGS + (ALESHIN,):
            for word, many in WORDS.items():
                for rest in ((None,) * (many - 2), (ADDING,) * (many - 2), (thing,) * (many - 2)):
                    if word != "core":
                        self.assertIs(told_by(look, (word, thing) + rest), NoDoing)
            for word, last in product(("mirrored", "parted"), (None, 3, [(ADDING, ADDING)])):
                self.assertIs(told_by(look, (word, ADDING, thing, last)), NoDoing)
                self.assertIs(told_by(look, (word, idle(3), thing, last)), NoDoing)
        for thing in NO_MACHINES + ODD_THINGS + (chain(2, 9),):
            for listed in ([], [idle(2)], None, thing):
                self.assertIs(told_by(look, ("core", thing, listed)), NoMachine)
        # A machine needn't be a doing, and a doing with so many states is no machine.
        self.assertNotEqual(or_refused(look, ("core", ALESHIN, [])), NoMachine)
        self.assertIs(told_by(look, ("power", chain(2, 9), [])), None)

    def test_no_fit(self):
        doings = (ADDING, SEVENTEEN_RETURNS[0], idle(3), SMALL_BEHIND, idle(4), ROUND_AND_ROUND)
        for word, one, other, last in product(("mirrored", "parted"), doings, doings, (None, 3, [], HUGE)):
            if one[0] != other[0]:
                self.assertIs(told_by(look, (word, one, other, last)), NoFit)
        # Elsewhere other doings are anything.
        self.expect(("power", ADDING, idle(3)), ("wrong", 0))
        self.expect(("order", ADDING, idle(3), idle(3), idle(3)), ("wrong", 0))
        self.expect(("core", ADDING, [idle(3)]), ("wrong", 0))

    def test_all_else_is_anything(self):
        for thing, word in product(OTHER_THINGS, WORDS):
            many = WORDS[word]
            for one in (ADDING, FLIPS, SMALL_BEHIND):
                if word in ("mirrored", "parted"):
                    self.check((word, one, one, thing))
                elif word == "core":
                    self.check((word, ADDING, thing))
                else:
                    self.check((word, one) + (thing,) * (many - 2))


class OrderTest(LookerCase):
    def test_right(self):
        for paper in (
            ("order", idle(2), 1, [(idle(2), 1)], []), ("order", idle(2), 1, [(idle(2), 1)], [(), (0,), (1, 1)]),
            ("order", FLIPS, 2, [(FLIPS, 2), (idle(2), 1)], [(0,)]),
            ("order", FLIPS, 2, [(idle(2), 1), (FLIPS, 2)], [(1, 0)]),
            ("order", FLIPS, 2, [(FLIPS, 2), (FLIPS, 2), (idle(2), 1), (idle(2), 5), (FLIPS, 10)], [(1, 0), (), (0,)]),
            # A list may hold more than what is come to, and greater numbers too.
            ("order", FLIPS, 2, [(FLIPS, 2), (FLIPS, 12), (idle(2), 1), (idle(2), 6), (chain(2, 3), 2)], [(0,)]),
            ("order", TURNS_4, 4, [(TURNS_4, 4), (idle(4), 1)], [(2,)]),
            ("order", TURNS_4, 4, [(TURNS_4, 4), (idle(4), 1), (TURNS_4, 4 * HUGE), (idle(4), HUGE)], [(2,)]),
        ):
            with self.subTest(paper=paper):
                self.expect(paper, RIGHT)

    def test_wrong(self):
        flips, nothing = (FLIPS, 2), (idle(2), 1)
        for n, listed, words, told in (
            # A whole number, and a list of tuples (doing of g's letters, whole number from 1 on).
            (None, [flips, nothing], [(0,)], 0), (True, [flips, nothing], [(0,)], 0),
            ("2", [flips, nothing], [(0,)], 0),
            (2, (flips, nothing), [(0,)], 0), (2, None, [(0,)], 0), (2, [flips, list(nothing)], [(0,)], 0),
            (2, [flips, nothing + (1,)], [(0,)], 0), (2, [flips, (idle(2),)], [(0,)], 0), (2, [flips, None], [(0,)], 0),
            (2, [flips, nothing, (idle(3), 1)], [(0,)], 0), (2, [flips, nothing, (ALESHIN, 1)], [(0,)], 0),
            (2, [flips, (idle(2), 0)], [(0,)], 0), (2, [flips, (idle(2), True)], [(0,)], 0),
            (2, [flips, nothing, (idle(2), -1)], [(0,)], 0), (2, [flips, nothing, (idle(2), None)], [(0,)], 0),
            (2, [flips, nothing, 5], [(0,)], 0), (2, [flips, nothing, []], [(0,)], 0), (2, "", [(0,)], 0),
            # (g, n) is in it.
            (2, [nothing], [(0,)], 0), (2, [], [], 0), (1, [flips, nothing], [], 0), (4, [flips, nothing], [(0,)], 0),
            (0, [flips, nothing], [(0,)], 0), (-2, [flips, nothing], [(0,)], 0), (2, [(FLIPS, 4), nothing], [(0,)], 0),
            (HUGE, [flips, nothing], [(0,)], 0), (1, [nothing], [], 0),
            # The return at each letter of each, with a number that goes into the one's so often.
            (2, [flips], [(0,)], 1), (1, [(FLIPS, 1), nothing], [], 1), (3, [(FLIPS, 3), nothing], [(0,)], 1),
            (2, [flips, (idle(2), 2)], [(0,)], 1), (2, [flips, nothing, (ADDS, 1)], [(0,)], 1),
            (2, [flips, nothing, (ADDS, HUGE)], [(0,)], 1), (2, [flips, nothing, (chain(2, 4), 2)], [(0,)], 1),
            (2, [flips, nothing, (FLIPS, 5)], [(0,)], 1), (2, [flips, (idle(2), 3), (idle(2), 4)], [(0,)], 1),
            # Words, and n is what their homes come to.
            (2, [flips, nothing], None, 2), (2, [flips, nothing], ((0,),), 2), (2, [flips, nothing], [0], 2),
            (2, [flips, nothing], [(0,), None], 2), (2, [flips, nothing], [(0,), (2,)], 2),
            (2, [flips, nothing], [()], 2),
            (2, [flips, nothing], [(0,), [0]], 2), (2, [flips, nothing], [(0,), (True,)], 2),
            (2, [flips, nothing], [(0,) * 201], 2), (2, [flips, nothing], [], 2), (2, [flips, nothing], "", 2),
            (4, [(FLIPS, 4), (idle(2), 2), nothing], [(0,)], 2), (6, [(FLIPS, 6), nothing], [(0,), (1,)], 2),
            (2, [flips, nothing], {}.get(0), 2), (2, [flips, nothing], (0,), 2),
        ):
            with self.subTest(n=n, listed=listed, words=words):
                self.expect(("order", FLIPS, n, listed, words), ("wrong", told))
        self.expect(("order", FLIPS, 2, [flips, nothing], [(0,) * 200]), RIGHT)
        self.expect(("order", idle(2), 1, [nothing], [(0,) * 200]), RIGHT)
        self.expect(("order", idle(2), True, [nothing], []), ("wrong", 0))
        self.expect(("order", idle(2), 1, [(idle(2), True)], []), ("wrong", 0))

    def test_the_first_clause_that_is_not_so(self):
        for n, listed, words, told in (
            (2, [(FLIPS, 2)], None, 1), (2, [(FLIPS, 2)], [()], 1), (None, [(FLIPS, 2)], None, 0),
            (3, [(FLIPS, 2)], [], 0),
        ):
            self.expect(("order", FLIPS, n, listed, words), ("wrong", told))

    def test_more_often(self):
        # Each letter has its own round: the home of letter 3 is 1, of the others 3.
        doing = standing((1, 2, 0, 3), (TURNS_4, idle(4), idle(4), TURNS_4))
        one, nothing = (TURNS_4, 4), (idle(4), 1)
        self.expect(("order", doing, 12, [(doing, 12), one, nothing], [(0, 0)]), RIGHT)
        self.expect(("order", doing, 12, [(doing, 12), one, nothing], [(3, 1), (1,)]), RIGHT)
        self.expect(("order", doing, 12, [(doing, 12), one, nothing], [(3, 1), (3,)]), ("wrong", 2))
        self.expect(("order", doing, 4, [(doing, 4), one, nothing], [(3, 1)]), ("wrong", 1))
        self.expect(("order", doing, 6, [(doing, 6), one, nothing], [(0, 0)]), ("wrong", 1))
        self.expect(("order", doing, 24, [(doing, 24), one, nothing], [(0, 0)]), ("wrong", 2))
        self.expect(("order", doing, 24, [(doing, 24), (TURNS_4, 8), (idle(4), 2), nothing], [(0, 0)]), ("wrong", 2))
        self.expect(("order", doing, 24, [(doing, 24), (TURNS_4, 8), (idle(4), 4)], [(0, 0)]), ("wrong", 1))

    def test_too_many(self):
        small, nothing = (SMALL_BEHIND, 12), (idle(3), 1)
        for paper, told in (
            # A return at a letter isn't held: refused, also where others are wrong.
            (("order", SMALL_BEHIND, 12, [small], []), TooMany),
            (("order", SMALL_BEHIND, 12, [small], None), TooMany),
            (("order", idle(3), 1, [nothing, small], []), TooMany),
            (("order", idle(3), 1, [nothing, (FLIPS_3, 1), small], []), TooMany),
            (("order", idle(3), 1, [small, nothing, (FLIPS_3, 1)], []), TooMany),
            (("order", ROUND_AND_ROUND, 4, [(ROUND_AND_ROUND, 4)], []), TooMany),
            # But not where the clause ahead isn't so.
            (("order", SMALL_BEHIND, 12, [(SMALL_BEHIND, 6)], []), ("wrong", 0)),
            (("order", idle(3), 2, [nothing, small], []), ("wrong", 0)),
            (("order", idle(3), 1, [small, nothing, (idle(3), 0)], []), ("wrong", 0)),
            # Many returns in all don't matter, where those of the list are held.
            (("order", SEVENTEEN_RETURNS[0], 2, [(SEVENTEEN_RETURNS[0], 2)], []), ("wrong", 1)),
        ):
            with self.subTest(paper=paper):
                self.expect(paper, told)

    def test_homes_that_are_not_told(self):
        # The list is closed, and yet a home isn't told? Then its returns were asked for ahead: all are held.
        for doing in held_doings(3, 10, 900):
            if order(doing)[0] == "order":
                paper = paper_of_order(doing)
                for words in (None, [(3,)], [None, (0,)], [(0,), (0, 1, 2) * 66], [(2,) * 200]):
                    self.check(paper[:4] + (words,))

    def test_what_is_told_is_right(self):
        found = 0
        doings = [doing for letters in (2, 3, 4) for doing in held_doings(letters, 60, 910 + letters)]
        for doing in doings + [A, B, C, D, A_B, reference.row_doing(GUPTA_SIDKI, (0, 1, 1))] + list(SIXTEEN_RETURNS):
            self.expect(paper_of_order(doing), RIGHT)
            found += order(doing)[0] == "order"
        self.assertGreater(found, 30)

    def test_what_is_told_and_then_changed(self):
        numbers = Numbers(91)
        seen = {}
        for letters in (2, 3, 4):
            for doing in held_doings(letters, 40, 920 + letters) + [B, A_B][:4 - letters]:
                if order(doing)[0] != "order":
                    continue
                for _ in range(12):
                    paper = change_order(numbers, paper_of_order(doing))
                    told = self.check(paper)
                    seen[told] = seen.get(told, 0) + 1
        for told in (RIGHT, ("wrong", 0), ("wrong", 1), ("wrong", 2)):
            self.assertGreater(seen[told], 20)


FLIPS_3 = standing((1, 0, 2), (idle(3),) * 3)


def change_order(numbers, paper):
    """A paper of an order, one or two things of it changed."""
    word, doing, n, listed, words = deepcopy(paper)
    for _ in range(numbers.within(1, 2)):
        at = numbers.below(len(listed)) if listed else 0
        deed = numbers.below(12)
        if deed == 0:
            n = numbers.within(0, 8)
        elif deed == 1 and listed:
            del listed[at]
        elif deed == 2 and listed:
            listed[at] = (listed[at][0], numbers.within(0, 12))
        elif deed == 3 and listed:
            listed[at] = (listed[at][0], listed[at][1] * numbers.within(1, 3))
        elif deed == 4 and listed:
            n = n * numbers.within(1, 2)
            listed.append((doing, n))
        elif deed == 5:
            listed.reverse()
        elif deed == 6 and words:
            del words[numbers.below(len(words))]
        elif deed == 7:
            words.append(numbers.word(doing[0], numbers.below(9)))
        elif deed == 8:
            words.append(OTHER_THINGS[numbers.below(len(OTHER_THINGS))])
        elif deed == 9:
            listed.insert(at, OTHER_THINGS[numbers.below(len(OTHER_THINGS))])
        elif deed == 10:
            listed.append((idle(doing[0]), numbers.within(1, 3)))
        elif deed == 11:
            words = [numbers.word(doing[0], numbers.below(12))]
    return word, doing, n, listed, words


class NoneTest(LookerCase):
    def test_by_hand(self):
        late = standing((0, 1), (idle(2), AT_ONE))
        for doing, u, v, told in (
            (ADDS, (), (0,), RIGHT), (ADDS, (1, 0), (1, 1, 0), RIGHT), (ADDS, (0,) * 200, (1,) * 200, RIGHT),
            (late, (1, 1), (0,), RIGHT), (late, (1, 1, 0, 0), (0, 1), RIGHT),
            # Words, the second not empty.
            (ADDS, None, (0,), ("wrong", 0)), (ADDS, [], (0,), ("wrong", 0)), (ADDS, (), [0], ("wrong", 0)),
            (ADDS, (), (), ("wrong", 0)), (ADDS, (0,), (), ("wrong", 0)), (ADDS, (2,), (0,), ("wrong", 0)),
            (ADDS, (), (0, 2), ("wrong", 0)), (ADDS, (), (0, True), ("wrong", 0)), (ADDS, (False,), (0,), ("wrong", 0)),
            (ADDS, (0,) * 201, (0,), ("wrong", 0)), (ADDS, (), (0,) * 201, ("wrong", 0)),
            (ADDS, (), None, ("wrong", 0)),
            (ADDS, "", (0,), ("wrong", 0)), (ADDS, 0, 0, ("wrong", 0)),
            # The return comes again.
            (late, (), (1,), ("wrong", 1)), (late, (), (1, 1), ("wrong", 1)), (late, (1,), (1,), ("wrong", 1)),
            (FLIPS, (), (0,), ("wrong", 1)), (FLIPS, (), (0, 1, 0), ("wrong", 1)),
            (chain(2, 9), (0,), (1,), ("wrong", 1)),
            # Some round is longer than one.
            (idle(2), (), (0,), ("wrong", 2)), (idle(4), (3, 2), (1,) * 200, ("wrong", 2)),
            (FLIPS, (0,), (1,), ("wrong", 2)),
            (late, (0,), (1, 1), ("wrong", 2)), (MARKED_14, (), (0,) * 14, ("wrong", 2)),
            (MARKED_14, (), (0,) * 13, ("wrong", 1)), (MARKED_14, (), (0,) * 28, ("wrong", 2)),
        ):
            with self.subTest(doing=doing, u=u, v=v):
                self.expect(("none", doing, u, v), told)

    def test_the_rounds_ahead_of_the_ring_do_not_count(self):
        # Letter 0 goes round with 1, and then nothing does.
        self.expect(("none", FLIPS, (0, 0), (0, 1)), ("wrong", 2))
        doing = standing((1, 0, 2), (idle(3), idle(3), standing((0, 1, 2), (chain(3, 2), idle(3), idle(3)))))
        self.expect(("none", doing, (2,), (0, 0, 0)), ("wrong", 1))
        self.expect(("none", doing, (0,), (2, 0, 0)), ("wrong", 2))

    def test_just_one_round_is_longer(self):
        # Of three letters behind one another the last alone goes round.
        states = (((0, 1), (1, 3)), ((0, 1), (2, 3)), ((1, 0), (0, 3)), ((0, 1), (3, 3)))
        doing = reference.least(2, reference.doing_chain((2, states)))
        self.expect(("none", doing, (), (0, 0, 0)), RIGHT)
        self.expect(("none", doing, (0,), (0, 0, 0)), RIGHT)
        self.expect(("none", doing, (0, 0), (0, 0, 0)), RIGHT)
        self.expect(("none", doing, (), (0, 0)), ("wrong", 1))
        self.expect(("none", doing, (1,), (0, 0, 0)), ("wrong", 2))

    def test_too_many(self):
        for doing, u, v, told in (
            (SMALL_BEHIND, (), (0,), TooMany), (SMALL_BEHIND, (), (1, 1), TooMany), (SMALL_BEHIND, (0,), (2,), TooMany),
            (SMALL_BEHIND, (2,), (), ("wrong", 0)), (SMALL_BEHIND, (0,), (), ("wrong", 0)),
            (SMALL_AHEAD, (), (0, 0), TooMany),
            (SMALL_AHEAD, (0,), (0,), TooMany), (SMALL_AHEAD, (0,), (1,), TooMany),
            (SMALL_AHEAD, (), (0,), ("wrong", 1)),
            (SMALL_AHEAD, (1,), (0,), ("wrong", 2)), (ROUND_AND_ROUND, (), (0,), TooMany),
            (ROUND_AND_ROUND, (4,), (0,), ("wrong", 0)),
        ):
            with self.subTest(doing=doing, u=u, v=v):
                self.expect(("none", doing, u, v), told)
        # As many returns as there are don't matter here.
        for doing, lead, ring in SIXTEEN_ALONG:
            self.assertIs(reference.returns(doing), None)
            self.check(("none", doing, lead + ring * 3, ring * 12))

    def test_many(self):
        numbers = Numbers(92)
        seen = {}
        for letters in (2, 3, 4):
            doings = held_doings(letters, 30, 930 + letters) + some_doings(letters, 15, 933 + letters)
            for doing in doings + [one for one in SIXTEEN_RETURNS if one[0] == letters]:
                for _ in range(12):
                    u, v = numbers.word(letters, numbers.below(6)), numbers.word(letters, numbers.below(5))
                    told = self.check(("none", doing, u, v))
                    seen[told] = seen.get(told, 0) + 1
        for told in (RIGHT, ("wrong", 0), ("wrong", 1), ("wrong", 2), TooMany):
            self.assertGreater(seen[told], 20)

    def test_what_is_told_is_right(self):
        found = 0
        for letters in (2, 3, 4):
            for doing in held_doings(letters, 60, 940 + letters) + [ADDS, TAKES, AT_ONE][:4 - letters]:
                paper = paper_of_order(doing)
                if paper[0] == "none":
                    found += 1
                    self.expect(paper, RIGHT)
        self.assertGreater(found, 30)


class MirroredTest(LookerCase):
    def test_by_hand(self):
        nothing = idle(2)
        for one, other, pairs, told in (
            (ADDS, TAKES, [(ADDS, TAKES)], RIGHT), (ADDS, ADDS, [(ADDS, ADDS)], RIGHT),
            (nothing, nothing, [(nothing, nothing)], RIGHT),
            (FLIPS, FLIPS, [(FLIPS, FLIPS), (nothing, nothing)], RIGHT),
            (FLIPS, FLIPS, [(nothing, nothing), (FLIPS, FLIPS), (ADDS, TAKES)], RIGHT),
            (FLIPS, FLIPS, [(nothing, nothing), (FLIPS, FLIPS), (nothing, nothing)], RIGHT),
            # A list of tuples of two doings of g's letters, (g, h) is in it.
            (ADDS, TAKES, None, ("wrong", 0)), (ADDS, TAKES, ((ADDS, TAKES),), ("wrong", 0)),
            (ADDS, TAKES, [], ("wrong", 0)),
            (ADDS, TAKES, [(TAKES, ADDS)], ("wrong", 0)), (ADDS, TAKES, [(ADDS, ADDS)], ("wrong", 0)),
            (ADDS, TAKES, [[ADDS, TAKES]], ("wrong", 0)), (ADDS, TAKES, [(ADDS, TAKES), None], ("wrong", 0)),
            (ADDS, TAKES, [(ADDS, TAKES), (ADDS,)], ("wrong", 0)), (ADDS, TAKES, [(ADDS, TAKES, 0)], ("wrong", 0)),
            (ADDS, TAKES, [(ADDS, TAKES), (ADDS, TAKES, ADDS)], ("wrong", 0)),
            (ADDS, TAKES, [(ADDS, TAKES), ()], ("wrong", 0)),
            (ADDS, TAKES, [(ADDS, TAKES), (idle(3), idle(3))], ("wrong", 0)),
            (ADDS, TAKES, [(ADDS, TAKES), (idle(2), idle(3))], ("wrong", 0)),
            (ADDS, TAKES, [(ADDS, TAKES), (idle(2), None)], ("wrong", 0)),
            (ADDS, TAKES, [(ADDS, TAKES), (ALESHIN, idle(2))], ("wrong", 0)),
            (ADDS, TAKES, [(ADDS, TAKES), (idle(2), GRIGORCHUK)], ("wrong", 0)),
            (ADDS, TAKES, [ADDS, TAKES], ("wrong", 0)),
            # The rounds can be paired.
            (FLIPS, FLIPS, [(FLIPS, FLIPS)], ("wrong", 1)), (FLIPS, nothing, [(FLIPS, nothing)], ("wrong", 1)),
            (FLIPS, nothing, [(FLIPS, nothing), (nothing, nothing)], ("wrong", 1)),
            (nothing, FLIPS, [(nothing, FLIPS), (nothing, nothing)], ("wrong", 1)),
            (ADDS, TAKES, [(ADDS, TAKES), (TAKES, ADDS), (FLIPS, FLIPS)], ("wrong", 1)),
            (ADDS, FLIPS, [(ADDS, FLIPS), (nothing, nothing)], ("wrong", 1)),
            (ADDS, FLIPS, [(ADDS, FLIPS), (ADDS, nothing)], ("wrong", 1)),
            (chain(2, 3), chain(2, 3), [(chain(2, 3), chain(2, 3)), (FLIPS, FLIPS)], ("wrong", 1)),
            # Unlike returns stand together in the list, and go on together.
            (FLIPS, FLIPS, [(FLIPS, FLIPS), (nothing, FLIPS), (nothing, nothing)], ("wrong", 1)),
            (AT_ONE, AT_ONE, [(AT_ONE, AT_ONE), (ADDS, ADDS), (nothing, nothing)], RIGHT),
            (AT_ONE, AT_ONE, [(AT_ONE, AT_ONE), (ADDS, ADDS)], ("wrong", 1)),
            (AT_ONE, AT_ONE, [(AT_ONE, AT_ONE), (ADDS, nothing), (nothing, ADDS)], ("wrong", 1)),
        ):
            with self.subTest(one=one, other=other, pairs=pairs):
                self.expect(("mirrored", one, other, pairs), told)

    def test_equally_long_ones(self):
        one, other = standing((1, 0, 2), (idle(3),) * 3), standing((0, 2, 1), (idle(3),) * 3)
        self.expect(("mirrored", one, other, [(one, other), (idle(3), idle(3))]), RIGHT)
        # As many rounds of each, but of unlike lengths.
        one, other = standing((1, 0, 3, 2), (idle(4),) * 4), standing((1, 2, 0, 3), (idle(4),) * 4)
        self.expect(("mirrored", one, other, [(one, other), (idle(4), idle(4))]), ("wrong", 1))
        self.expect(("mirrored", other, one, [(other, one), (idle(4), idle(4))]), ("wrong", 1))
        # A round that is longer doesn't stand for two.
        one, other = standing((1, 0, 3, 2), (idle(4),) * 4), TURNS_4
        self.expect(("mirrored", one, other, [(one, other), (idle(4), idle(4))]), ("wrong", 1))

    def test_the_first_pairing_that_is_tried_does_not_go_on(self):
        # Two letters turned about, whichever: all these are mirrored. So the list alone tells which may go together.
        turned = [
            standing(turns, (idle(4),) * 4) for turns in ((1, 0, 2, 3), (2, 1, 0, 3), (3, 1, 2, 0), (0, 2, 1, 3))
        ]
        one, other = standing(FIXED, turned), standing(FIXED, turned[::-1])
        every = list(product(turned, turned))
        numbers, seen = Numbers(98), {}
        for _ in range(400):
            most = numbers.within(3, 12)
            pairs = [pair for pair in every if numbers.below(16) < most]
            goes_on = any(
                all((first, second) in pairs for first, second in zip(turned, ordered))
                for ordered in permutations(turned)
            )
            told = RIGHT if goes_on else ("wrong", 1)
            self.expect(("mirrored", one, other, [(one, other), (idle(4), idle(4)), *pairs]), told)
            seen[told] = seen.get(told, 0) + 1
        self.assertGreater(min(seen.values()), 50)
        # Each but the last may go to two, and there is just one way that takes in all.
        for a, b, c, d in permutations(turned):
            pairs = [(a, turned[0]), (a, turned[1]), (b, turned[1]), (b, turned[2]), (c, turned[2]), (c, turned[3])]
            rest = [(one, other), (idle(4), idle(4))]
            self.expect(("mirrored", one, other, rest + pairs + [(d, turned[0])]), RIGHT)
            self.expect(("mirrored", one, other, rest + pairs + [(d, turned[3])]), RIGHT)
            self.expect(("mirrored", one, other, rest + pairs), ("wrong", 1))

    def test_pairings_that_go_on(self):
        nothing = idle(4)
        # Three letters' returns are mirrored to one another, the fourth's is not.
        for turned in ((ADDS_4, ADDS_4, ADDS_BACK_4), (ADDS_BACK_4, ADDS_4, ADDS_4), (ADDS_4, ADDS_BACK_4, ADDS_4)):
            one = standing(FIXED, (ADDS_4, ADDS_4, ADDS_BACK_4, SHORT_4))
            other = standing(FIXED, turned + (SHORT_4,))
            rest = [(SHORT_4, SHORT_4), (chain(4, 2), chain(4, 2)), (nothing, nothing)]
            for mask in range(16):
                four = list(product((ADDS_4, ADDS_BACK_4), repeat=2))
                pairs = [pair for at, pair in enumerate(four) if mask & (1 << at)]
                self.check(("mirrored", one, other, [(one, other)] + pairs + rest))
            every = list(product((ADDS_4, ADDS_BACK_4), repeat=2))
            self.expect(("mirrored", one, other, [(one, other), *every, *rest]), RIGHT)
        # The first letter's return goes with both, but if it takes the first one the second is left with none.
        one = standing((0, 1, 2), (FLIPS_3, BACKWARDS_3, idle(3)))
        other = standing((0, 1, 2), (BACKWARDS_3, FLIPS_3, idle(3)))
        nothing = (idle(3), idle(3))
        both = [(FLIPS_3, BACKWARDS_3), (FLIPS_3, FLIPS_3)]
        self.expect(("mirrored", one, other, [(one, other), nothing, *both]), ("wrong", 1))
        self.expect(("mirrored", one, other, [(one, other), nothing, *both, (BACKWARDS_3, BACKWARDS_3)]), RIGHT)
        self.expect(("mirrored", one, other, [(one, other), nothing, *both[::-1], (BACKWARDS_3, BACKWARDS_3)]), RIGHT)
        self.expect(("mirrored", one, other, [(one, other), nothing, *both, (BACKWARDS_3, FLIPS_3)]), RIGHT)
        self.expect(("mirrored", one, other, [(one, other), *both, (BACKWARDS_3, FLIPS_3)]), ("wrong", 1))

    def test_too_many(self):
        nothing = idle(3)
        small = (SMALL_BEHIND, SMALL_BEHIND)
        for one, other, pairs, told in (
            (SMALL_BEHIND, SMALL_BEHIND, [small], TooMany), (SMALL_BEHIND, nothing, [(SMALL_BEHIND, nothing)], TooMany),
            (nothing, SMALL_BEHIND, [(nothing, SMALL_BEHIND)], TooMany),
            (nothing, nothing, [(nothing, nothing), small], TooMany),
            # Wrong ones ahead and behind don't matter.
            (nothing, nothing, [(nothing, nothing), (FLIPS_3, nothing), small], TooMany),
            (nothing, nothing, [small, (FLIPS_3, nothing), (nothing, nothing)], TooMany),
            (nothing, nothing, [(nothing, nothing), (nothing, SMALL_BEHIND)], TooMany),
            # Unless the clause ahead isn't so.
            (SMALL_BEHIND, SMALL_BEHIND, [], ("wrong", 0)),
            (SMALL_BEHIND, nothing, [(nothing, SMALL_BEHIND)], ("wrong", 0)),
            (nothing, nothing, [small], ("wrong", 0)), (SMALL_BEHIND, SMALL_BEHIND, [small, None], ("wrong", 0)),
            (SMALL_BEHIND, SMALL_BEHIND, None, ("wrong", 0)),
        ):
            with self.subTest(one=one, other=other, pairs=pairs):
                self.expect(("mirrored", one, other, pairs), told)
        # Seventeen returns don't matter, as each that is asked for is held.
        doing = SEVENTEEN_RETURNS[0]
        every = [(one, one) for one in reference.returns(doing, 17)]
        self.expect(("mirrored", doing, doing, every), RIGHT)
        self.expect(("mirrored", doing, doing, every[:1]), ("wrong", 1))

    def test_what_is_told_is_right(self):
        found = 0
        for one, other in PAIRED + tuple(SOME_PAIRS[::3]) + tuple([(doing, back(doing)) for doing in SIXTEEN_RETURNS]):
            paper = paper_of_mirror(one, other)
            if paper[0] == "mirrored":
                found += 1
                self.expect(paper, RIGHT)
                every = [(first, second) for first in returns(one) for second in returns(other)
                         if reference.are_mirrored(first, second)]
                self.expect(("mirrored", one, other, every), RIGHT)
        self.assertGreater(found, 80)

    def test_what_is_told_and_then_changed(self):
        numbers = Numbers(93)
        seen = {}
        for one, other in PAIRED * 4 + tuple(SOME_PAIRS):
            paper = paper_of_mirror(one, other)
            pairs = paper[3] if paper[0] == "mirrored" else [(one, other)]
            others = [idle(one[0]), one, other] + returns(one) + returns(other)
            for _ in range(2):
                changed = list(pairs)
                for _ in range(numbers.within(1, 2)):
                    at = numbers.below(len(changed) + 1)
                    deed = numbers.below(5)
                    if deed == 0 and at < len(changed):
                        del changed[at]
                    elif deed == 1:
                        pair = others[numbers.below(len(others))], others[numbers.below(len(others))]
                        changed.insert(at, pair)
                    elif deed == 2:
                        changed.reverse()
                    elif deed == 3 and at < len(changed) and reference_looker.is_pair(changed[at]):
                        changed[at] = (changed[at][1], changed[at][0])
                    elif deed == 4 and numbers.below(4) == 0:
                        changed.insert(at, OTHER_THINGS[numbers.below(len(OTHER_THINGS))])
                told = self.check(("mirrored", one, other, changed))
                seen[told] = seen.get(told, 0) + 1
        for told in (RIGHT, ("wrong", 0), ("wrong", 1)):
            self.assertGreater(seen[told], 50)


BACKWARDS_3 = standing((2, 1, 0), (idle(3),) * 3)


class PartedTest(LookerCase):
    def test_by_hand(self):
        for one, other, number in PARTED:
            for n in list(range(1, 41)) + [64, 199, 200]:
                told = ("wrong", 1) if n < number else ("wrong", 2) if n > number else RIGHT
                self.expect(("parted", one, other, n), told)
                self.expect(("parted", other, one, n), told)
        for one, other in PAIRED:
            for n in (1, 2, 3, 31, 32, 33, 199, 200):
                self.expect(("parted", one, other, n), ("wrong", 1))

    def test_far_down(self):
        # There are as many words of 27 letters as no list holds.
        self.expect(("parted", MARKED_14, MARKED_13, 27), RIGHT)
        self.expect(("parted", MARKED_14, MARKED_13, 26), ("wrong", 1))
        self.expect(("parted", MARKED_14, MARKED_13, 28), ("wrong", 2))
        self.expect(("parted", MARKED_14, MARKED_13, 200), ("wrong", 2))

    def test_no_number(self):
        for n in ODD_THINGS + (0, -1, 201, 202, HUGE, True, False, None, "1", (1,), [1], 10 ** 9):
            if type(n) is int and 1 <= n <= 200:
                continue
            for one, other in ((idle(2), ADDS), (ADDS, ADDS), (SMALL_BEHIND, idle(3)), (ROUND_AND_ROUND,) * 2):
                self.expect(("parted", one, other, n), ("wrong", 0))
        self.expect(("parted", idle(2), ADDS, 1), RIGHT)
        self.expect(("parted", idle(2), ADDS, 200), ("wrong", 2))

    def test_too_many(self):
        barred = (SEVENTEEN_RETURNS[1], SMALL_BEHIND)
        for one, other in product(barred, barred + (idle(3),)):
            for n in (1, 2, 200):
                self.expect(("parted", one, other, n), TooMany)
                self.expect(("parted", other, one, n), TooMany)
            for n in (0, 201, None):
                self.expect(("parted", one, other, n), ("wrong", 0))

    def test_what_is_told_is_right(self):
        found = 0
        for one, other in SOME_PAIRS[::2]:
            paper = paper_of_mirror(one, other)
            if paper[0] == "parted":
                found += 1
                self.expect(paper, RIGHT)
                self.expect(paper[:3] + (paper[3] + 1,), ("wrong", 2))
                self.expect(paper[:3] + (paper[3] - 1,), ("wrong", 1 if paper[3] > 1 else 0))
            else:
                self.expect(("parted", one, other, 2), ("wrong", 1))
        self.assertGreater(found, 50)


class PowerTest(LookerCase):
    def test_by_hand(self):
        two = standing((0, 1), (ADDS, idle(2)))
        # A ring, then another one: 0 goes round, 1 leads on.
        rings = reference.least(2, reference.doing_chain((2, (
            ((1, 0), (0, 1)), ((1, 0), (1, 2)), ((0, 1), (2, 2)),
        ))))
        for doing, told_rings, told in (
            (ADDS, [((), (1,))], RIGHT), (ADDS, [((1, 1), (1, 1, 1))], RIGHT), (two, [((0,), (1,))], RIGHT),
            (rings, [((), (0,)), ((1,), (0,))], RIGHT), (rings, [((), (0,))], RIGHT),
            (rings, [((0, 1, 0), (0, 0))], RIGHT),
            # A list, not empty, of tuples of two words, the second not empty.
            (ADDS, [], ("wrong", 0)), (ADDS, None, ("wrong", 0)), (ADDS, (((), (1,)),), ("wrong", 0)),
            (ADDS, [((), ())], ("wrong", 0)), (ADDS, [((1,), ())], ("wrong", 0)), (ADDS, [[(), (1,)]], ("wrong", 0)),
            (ADDS, [((), (1,), ())], ("wrong", 0)), (ADDS, [((), (2,))], ("wrong", 0)),
            (ADDS, [((2,), (1,))], ("wrong", 0)),
            (ADDS, [((), [1])], ("wrong", 0)), (ADDS, [(None, (1,))], ("wrong", 0)),
            (ADDS, [((), (True,))], ("wrong", 0)),
            (ADDS, [((1,) * 201, (1,))], ("wrong", 0)), (ADDS, [((1,), (1,) * 201)], ("wrong", 0)),
            (ADDS, [((), (1,)), None], ("wrong", 0)), (ADDS, [((0,), (1,)), 5], ("wrong", 0)), (ADDS, 0, ("wrong", 0)),
            (ADDS, [((), (1,)), ((), ())], ("wrong", 0)), (ADDS, [(), (1,)], ("wrong", 0)),
            (ADDS, [((1,),)], ("wrong", 0)), (ADDS, [((), (1,)), ()], ("wrong", 0)),
            (ADDS, [((0,), (1,)), ((1,),)], ("wrong", 0)),
            # A state that isn't idle, and that the ring leads back.
            (ADDS, [((0,), (1,))], ("wrong", 1)), (ADDS, [((0,), (0,))], ("wrong", 1)),
            (ADDS, [((), (0,))], ("wrong", 1)),
            (ADDS, [((), (1, 0))], ("wrong", 1)), (two, [((), (1,))], ("wrong", 1)),
            (two, [((1,), (0,))], ("wrong", 1)),
            (idle(2), [((), (0,))], ("wrong", 1)), (idle(2), [((0, 1), (1, 1))], ("wrong", 1)),
            (rings, [((), (0,)), ((1,), (1,))], ("wrong", 1)),
            (rings, [((), (0,)), ((1,), (0,)), ((1,), (0,))], ("wrong", 1)),
            (rings, [((), (0,)), ((), (1,))], ("wrong", 1)), (rings, [((1, 1), (0,)), ((), (0,))], ("wrong", 1)),
            # Each further lead leads from the state ahead.
            (rings, [((1,), (0,)), ((1,), (0,))], ("wrong", 1)), (rings, [((0,), (0, 0)), ((0, 1), (0,))], RIGHT),
            # None leads back to one ahead of it.
            (ADDS, [((), (1,)), ((), (1,))], ("wrong", 2)), (ADDS, [((), (1,)), ((1,), (1, 1))], ("wrong", 2)),
            (rings, [((), (0,)), ((0,), (0,))], ("wrong", 2)),
            (rings, [((), (0,)), ((1,), (0,)), ((0,), (0,))], ("wrong", 2)),
            (rings, [((), (0,)), ((), (0,)), ((1,), (0,))], ("wrong", 2)), (ONE_STATE, [((), (0,))], RIGHT),
            (ONE_STATE, [((), (0,)), ((), (1,))], ("wrong", 2)),
        ):
            with self.subTest(doing=doing, rings=told_rings):
                self.expect(("power", doing, told_rings), told)
        self.expect(("power", ADDS, [((1,) * 200, (1,) * 200)]), RIGHT)

    def test_back_by_a_long_way(self):
        # Three states in a ring, each with a ring of its own.
        states = (((1, 0, 2), (0, 1, 3)), ((0, 2, 1), (1, 2, 3)), ((2, 1, 0), (2, 0, 3)), ((0, 1, 2), (3, 3, 3)))
        doing = reference.least(3, reference.doing_chain((3, states)))
        self.expect(("power", doing, [((), (0,))]), RIGHT)
        self.expect(("power", doing, [((), (0,)), ((1,), (0,))]), ("wrong", 2))
        self.expect(("power", doing, [((), (0,)), ((1, 1), (0,))]), ("wrong", 2))
        self.expect(("power", doing, [((1, 1), (0,)), ((1,), (0,))]), ("wrong", 2))

    def test_nothing_is_refused(self):
        for doing in (SMALL_BEHIND, ROUND_AND_ROUND) + SEVENTEEN_RETURNS:
            self.assertIs(reference.returns(doing), None)
            for lead, ring in product(((), (0,), (0, 1)), ((0,), (1, 0), (0, 1, 0))):
                self.check(("power", doing, [(lead, ring)]))
                self.check(("doubles", doing, lead, ring, ring[::-1]))

    def test_what_is_told_is_right(self):
        seen = {}
        for letters in (2, 3, 4):
            for doing in held_doings(letters, 80, 950 + letters) + some_doings(letters, 20, 954 + letters):
                paper = paper_of_kind(doing)
                if paper is not None:
                    self.expect(paper, RIGHT)
                    seen[paper[0]] = seen.get(paper[0], 0) + 1
        self.assertGreater(min(seen["power"], seen["doubles"]), 20)
        for doing in (SWELLING, MARKED_14, B, C, D, A_B, ALESHIN_DOING):
            self.expect(paper_of_kind(doing), RIGHT)

    def test_many(self):
        numbers = Numbers(94)
        seen = {}
        for letters in (2, 3, 4):
            for doing in held_doings(letters, 60, 960 + letters) + [AT_ONE][:3 - letters]:
                known = paper_of_kind(doing)
                rings = known[2] if known is not None and known[0] == "power" else []
                for _ in range(8):
                    changed = list(rings)
                    for _ in range(numbers.within(0, 2)):
                        at = numbers.below(len(changed) + 1)
                        if numbers.below(3) == 0 and at < len(changed):
                            del changed[at]
                        else:
                            lead = numbers.word(letters, numbers.below(3))
                            changed.insert(at, (lead, numbers.word(letters, numbers.within(1, 2))))
                    told = self.check(("power", doing, changed))
                    seen[told] = seen.get(told, 0) + 1
        for told in (RIGHT, ("wrong", 0), ("wrong", 1), ("wrong", 2)):
            self.assertGreater(seen[told], 20)


ALESHIN_DOING = reference.row_doing(ALESHIN, (0,))


class DoublesTest(LookerCase):
    def test_by_hand(self):
        for doing, lead, one, other, told in (
            (ONE_STATE, (), (0,), (1,), RIGHT), (ONE_STATE, (1, 1), (0, 1), (0, 0), RIGHT),
            (ONE_STATE, (0,) * 200, (0,) * 200, (0,) * 199 + (1,), RIGHT),
            # All three are words.
            (ONE_STATE, None, (0,), (1,), ("wrong", 0)), (ONE_STATE, (), [0], (1,), ("wrong", 0)),
            (ONE_STATE, (), (0,), (2,), ("wrong", 0)), (ONE_STATE, (), (0,), (True,), ("wrong", 0)),
            (ONE_STATE, (-1,), (0,), (1,), ("wrong", 0)), (ONE_STATE, (), (0,) * 201, (1,), ("wrong", 0)),
            (ONE_STATE, (), (), None, ("wrong", 0)), (ONE_STATE, (0,) * 201, (0,), (1,), ("wrong", 0)),
            (idle(2), (), (2,), (1,), ("wrong", 0)), (ONE_STATE, (), (0,), "1", ("wrong", 0)),
            # The state isn't idle, and both lead it back.
            (idle(2), (), (0,), (1,), ("wrong", 1)), (ADDS, (), (0,), (1,), ("wrong", 1)),
            (ADDS, (), (1,), (0,), ("wrong", 1)),
            (ADDS, (0,), (0,), (1,), ("wrong", 1)), (ADDS, (), (1, 0), (1, 1), ("wrong", 1)),
            (ADDS, (), (1,), (0, 0), ("wrong", 1)), (FLIPS, (), (), (0,), ("wrong", 1)),
            (idle(2), (), (), (), ("wrong", 1)),
            # Neither begins the other.
            (ONE_STATE, (), (0,), (0,), ("wrong", 2)), (ONE_STATE, (), (0,), (0, 1), ("wrong", 2)),
            (ONE_STATE, (), (0, 1), (0,), ("wrong", 2)), (ONE_STATE, (), (), (0,), ("wrong", 2)),
            (ONE_STATE, (), (0,), (), ("wrong", 2)), (ONE_STATE, (), (), (), ("wrong", 2)),
            (ADDS, (), (1,), (1, 1), ("wrong", 2)),
            (ADDS, (1,), (1, 1, 1), (1,), ("wrong", 2)), (FLIPS, (), (), (), ("wrong", 2)),
            (ADDS, (), (), (1,), ("wrong", 2)),
            (ONE_STATE, (), (0, 1, 1), (0, 1, 0, 0), RIGHT), (ONE_STATE, (), (1, 0), (0, 1, 0), RIGHT),
        ):
            with self.subTest(doing=doing, lead=lead, one=one, other=other):
                self.expect(("doubles", doing, lead, one, other), told)

    def test_many(self):
        numbers = Numbers(95)
        seen = {}
        for letters in (2, 3, 4):
            for doing in some_doings(letters, 60, 970 + letters):
                for _ in range(12):
                    words = [numbers.word(letters, numbers.below(4)) for _ in range(3)]
                    told = self.check(("doubles", doing, *words))
                    seen[told] = seen.get(told, 0) + 1
        for told in (RIGHT, ("wrong", 1), ("wrong", 2)):
            self.assertGreater(seen[told], 20)


class CoreTest(LookerCase):
    def test_by_hand(self):
        adds, nothing = ADDS, idle(2)
        for machine, listed, told in (
            (ADDING, [nothing, adds, TAKES], RIGHT), (ADDING, [nothing, TAKES, adds], RIGHT),
            (ONE_STATE, [nothing, ONE_STATE], RIGHT),
            ((2, (((0, 1), (0, 0)),)), [nothing], RIGHT), ((2, (((1, 0), (1, 1)), ((0, 1), (1, 1)))), [nothing], RIGHT),
            # A list of doings of the machine's letters, none twice, the idle one first.
            (ADDING, None, ("wrong", 0)), (ADDING, (nothing, adds, TAKES), ("wrong", 0)), (ADDING, [], ("wrong", 0)),
            (ADDING, [adds, nothing, TAKES], ("wrong", 0)), (ADDING, [nothing, adds, TAKES, adds], ("wrong", 0)),
            (ADDING, [nothing, adds, TAKES, nothing], ("wrong", 0)),
            (ADDING, [nothing, adds, TAKES, None], ("wrong", 0)),
            (ADDING, [nothing, adds, TAKES, idle(3)], ("wrong", 0)),
            (ADDING, [nothing, adds, TAKES, ALESHIN], ("wrong", 0)),
            (ADDING, [nothing, adds, list(TAKES)], ("wrong", 0)), (ADDING, [idle(3)], ("wrong", 0)),
            (ADDING, [adds], ("wrong", 0)),
            (ADDING, [nothing, []], ("wrong", 0)), (ADDING, [nothing, nothing], ("wrong", 0)),
            (ADDING, nothing, ("wrong", 0)),
            (ADDING, [nothing, (nothing, adds)], ("wrong", 0)), (ADDING, "", ("wrong", 0)),
            # Each further one stands behind long words of one ahead, done and then a state's.
            (ADDING, [nothing, ONE_STATE, adds, TAKES], ("wrong", 1)),
            (ADDING, [nothing, adds, TAKES, FLIPS], ("wrong", 1)),
            (ADDING, [nothing, adds, TAKES, joined(adds, adds)], ("wrong", 1)),
            (ONE_STATE, [nothing, adds], ("wrong", 1)),
            ((2, (((1, 0), (1, 1)), ((0, 1), (1, 1)))), [nothing, FLIPS], ("wrong", 1)),
            # All that stands behind long words is in it.
            (ADDING, [nothing], ("wrong", 2)), (ADDING, [nothing, adds], ("wrong", 2)),
            (ADDING, [nothing, TAKES], ("wrong", 2)),
            (ONE_STATE, [nothing], ("wrong", 2)), (GRIGORCHUK, [nothing, A, B, C], ("wrong", 2)),
            (GRIGORCHUK, [nothing, A, B, C, D], RIGHT), (GRIGORCHUK, [nothing, D, C, B, A], RIGHT),
            (GRIGORCHUK, [nothing, B, C, D], ("wrong", 2)), (GRIGORCHUK, [nothing, A, B, C, D, A_B], ("wrong", 1)),
        ):
            with self.subTest(machine=machine, listed=listed):
                self.expect(("core", machine, listed), told)

    def test_grown_from_those_ahead_alone(self):
        a, b = [reference.row_doing(BASILICA, (state,)) for state in (0, 1)]
        a_back, b_back = back(a), back(b)
        one, other = joined(a_back, b), joined(b_back, a)
        nothing = idle(2)
        self.expect(("core", BASILICA, [nothing, a, b, a_back, b_back, one, other]), RIGHT)
        self.expect(("core", BASILICA, [nothing, a_back, one, a, b_back, b, other]), RIGHT)
        # It is none of a state's, so it stands behind no long words of the idle one and then a state's.
        self.expect(("core", BASILICA, [nothing, one, a, b, a_back, b_back, other]), ("wrong", 1))
        self.expect(("core", BASILICA, [nothing, other, a, b, a_back, b_back, one]), ("wrong", 1))
        self.expect(("core", BASILICA, [nothing, a, b, a_back, b_back, one]), ("wrong", 2))
        self.expect(("core", BASILICA, [nothing, a, b, a_back, b_back]), ("wrong", 2))
        # Rounds of four letters: what is grown from the second is the third.
        turns = standing((1, 2, 3, 0), (idle(4),) * 4)
        machine = (4, (((1, 2, 3, 0), (0, 0, 0, 0)),))
        one = reference.row_doing(machine, (0,))
        nothing, two, three = idle(4), joined(one, one), back(one)
        for listed, told in (
            ([nothing, one, two, three], RIGHT), ([nothing, one, three, two], RIGHT),
            ([nothing, three, two, one], RIGHT),
            ([nothing, two, one, three], ("wrong", 1)), ([nothing, one, two], ("wrong", 2)),
            ([nothing, one, two, three, turns], ("wrong", 1)),
        ):
            self.expect(("core", machine, listed), told)

    def test_too_many(self):
        for machine in CORES_NOT_GROWN + CORES_OF_SEVENTEEN + (ALESHIN, THREE):
            letters = machine[0]
            listed, numbers = [idle(letters)], Numbers(96)
            for _ in range(25):
                self.check(("core", machine, listed))
                asked = [one for one in listed if None not in [
                    reference.joined(one, sign) for sign in reference.sign_doings(machine)
                ]]
                behind_them = sorted({one for ahead in asked for one in reference_looker.all_lasting(machine, ahead)})
                left = [one for one in behind_them if one not in listed]
                if not left:
                    break
                listed.append(left[numbers.below(len(left))])
            self.check(("core", machine, listed))
        # The last one's products are asked for by the last clause alone.
        machine, big = NOT_HELD_LAST
        self.assertIn(None, [reference.joined(big, sign) for sign in reference.sign_doings(machine)])
        nothing = idle(machine[0])
        self.expect(("core", machine, [nothing, big]), ("wrong", 1))
        self.expect(("core", machine, [nothing, big, FLIPS]), TooMany)
        self.expect(("core", machine, [nothing, FLIPS, big]), ("wrong", 1))
        self.expect(("core", machine, [big, nothing]), ("wrong", 0))
        self.expect(("core", machine, [nothing, big, big]), ("wrong", 0))

    def test_too_many_at_the_last_clause(self):
        found = 0
        for machine in CORES_NOT_GROWN:
            signs = reference.sign_doings(machine)
            listed = [idle(machine[0])]
            barred = None
            at = 0
            while barred is None:
                for one in reference_looker.all_lasting(machine, listed[at]):
                    if one not in listed and None in [reference.joined(one, sign) for sign in signs]:
                        barred = barred or one
                    elif one not in listed:
                        listed.append(one)
                at += 1
            self.expect(("core", machine, listed + [barred]), TooMany)
            self.expect(("core", machine, listed), ("wrong", 2))
            # Wrong ones ahead of it: the clause ahead of the last tells of them, as it doesn't ask for the last.
            alien = alien_of(machine, listed + [barred])
            self.expect(("core", machine, listed[:1] + [alien] + listed[1:] + [barred]), ("wrong", 1))
            told = TooMany if listed[1:] else ("wrong", 1)
            self.expect(("core", machine, listed[:1] + [alien, barred] + listed[1:]), told)
            found += 1
        self.assertEqual(found, len(CORES_NOT_GROWN))

    def test_more_than_sixteen(self):
        # The list may be as long as it is.
        for machine in CORES_OF_SEVENTEEN:
            listed, at = [idle(machine[0])], 0
            while at < len(listed):
                listed += [one for one in reference_looker.all_lasting(machine, listed[at]) if one not in listed]
                listed = list(dict.fromkeys(listed))
                at += 1
            self.assertEqual(len(listed), 17)
            self.expect(("core", machine, listed), RIGHT)
            self.expect(("core", machine, listed[:-1]), ("wrong", 2))

    def test_what_is_told_is_right(self):
        found = 0
        known = (ADDING, ONE_STATE, GRIGORCHUK, GUPTA_SIDKI, BASILICA)
        for machine in known + CORES_OF_SIXTEEN + tuple(some_machines(60, 980)):
            told = or_refused(core, machine)
            if type(told) is list:
                found += 1
                self.expect(("core", machine, in_order_of_growth(machine)), RIGHT)
                self.check(("core", machine, told))
        self.assertGreater(found, 30)
        for machine in known:
            self.expect(("core", machine, core(machine)), RIGHT)

    def test_many(self):
        numbers = Numbers(97)
        seen = {}
        for machine in (ADDING, ONE_STATE, GRIGORCHUK, BASILICA) * 4 + tuple(some_machines(80, 981)):
            if reference.core(machine) is None:
                continue
            for _ in range(4):
                listed = in_order_of_growth(machine)
                for _ in range(numbers.within(0, 2)):
                    at = numbers.below(len(listed))
                    deed = numbers.below(5)
                    if deed == 0:
                        listed.append(listed.pop(at))
                    elif deed == 1:
                        listed.insert(at, listed.pop())
                    elif deed == 2 and len(listed) > 1:
                        del listed[at]
                    elif deed == 3:
                        listed.insert(at + 1, behind(listed[at], (0,)))
                    elif deed == 4:
                        alien = reference.row_doing(machine, numbers.row(machine, 2))
                        if alien is not None and alien not in listed:
                            listed.insert(at + 1, alien)
                told = self.check(("core", machine, listed))
                seen[told] = seen.get(told, 0) + 1
        for told in (RIGHT, ("wrong", 0), ("wrong", 1), ("wrong", 2)):
            self.assertGreater(seen[told], 9)


def alien_of(machine, listed):
    """A doing that stands behind none of these, and that done and then a state's is held."""
    for many in range(2, 6):
        one = chain(machine[0], many)
        if one not in listed and None not in [reference.joined(one, sign) for sign in reference.sign_doings(machine)]:
            if all(one not in reference_looker.all_lasting(machine, ahead) for ahead in listed[:-1]):
                return one


# Done and then a state's it isn't held.
NOT_HELD_LAST = (BASILICA, chain(2, 16))


class NothingChangesTest(unittest.TestCase):
    def papers(self):
        told = [paper_of_order(doing) for doing in (FLIPS, ADDS, A_B, B)]
        told += [paper_of_mirror(one, other) for one, other in PAIRED[:6]]
        told += [("parted", *pair) for pair in PARTED[:4]]
        told += [paper_of_kind(doing) for doing in (ADDS, B, ONE_STATE, ALESHIN_DOING)]
        told += [("core", machine, core(machine)) for machine in (ADDING, GRIGORCHUK, BASILICA)]
        return told

    def test_what_is_handed_in_stays_as_it_is(self):
        for paper in self.papers():
            self.assertEqual(look(paper), RIGHT)
            before = deepcopy(paper)
            look(paper)
            self.assertEqual(paper, before)
            for thing in OTHER_THINGS + NO_WORDS:
                for at in range(len(paper)):
                    changed = paper[:at] + (thing,) + paper[at + 1:]
                    kept = deepcopy(changed)
                    told = or_refused(look, changed)
                    self.assertEqual(changed, kept)
                    self.assertEqual(or_refused(look, kept), told)
                    self.assertEqual(told, reference_looker.look(kept))


if __name__ == "__main__":
    unittest.main()
