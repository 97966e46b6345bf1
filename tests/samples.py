"""What the tests hand in: forms, numbers, texts, numbers of places, and things that are none of these."""

import copy
import enum
import itertools
from decimal import Decimal
from fractions import Fraction

from poisescale.errors import NoForm, NoNumber, NoPlace, NoText, ScaleError

REFUSALS = (NoForm, NoNumber, NoText, NoPlace)


class EqualToAll:
    """Calls itself equal to whatever it is compared with."""

    def __eq__(self, other):
        return True

    def __ne__(self, other):
        return False

    __hash__ = None


class WithoutWords:
    """Can't be written out, compared or measured."""

    def __repr__(self):
        raise RuntimeError("not to be shown")

    __str__ = __repr__

    def __eq__(self, other):
        raise RuntimeError("not to be compared")

    def __bool__(self):
        raise RuntimeError("not to be asked")

    def __len__(self):
        raise RuntimeError("not to be measured")

    __hash__ = None


class ActsAsInt:
    """Serves as an index, and is no int."""

    def __index__(self):
        return 1

    def __int__(self):
        return 1


class ActsAsList:
    """Can be walked and indexed like a form, and is no list."""

    def __len__(self):
        return 1

    def __getitem__(self, place):
        return [1][place]


class Colour(enum.Enum):
    RED = 1


def short_forms(most):
    """Every form of at most so many lays, made without the program."""
    found = []
    for length in range(most + 1):
        for lays in itertools.product((-1, 0, 1), repeat=length):
            if length == 0 or lays[-1] != 0:
                found.append(list(lays))
    return found


def weighed(form):
    """What a form weighs, reckoned place by place as the document says it."""
    return sum(lay * 3 ** place for place, lay in enumerate(form))


def long_forms():
    """Forms of 2000 lays, and some somewhat longer."""
    found = []
    for length in (1999, 2000, 2050):
        found.append([1] * length)
        found.append([-1] * length)
        found.append([0] * (length - 1) + [1])
        found.append([0] * (length - 1) + [-1])
        found.append([-1] * (length - 1) + [1])
        found.append([1] * (length - 1) + [-1])
        found.append([place * place % 3 - place % 2 for place in range(length - 1)] + [1])
    return found


def great_numbers():
    """Numbers of 950 figures and nearby, on both sides of nought."""
    found = []
    for figures in (949, 950, 960):
        found.extend([10 ** figures - 1, 10 ** (figures - 1), int("1234567890" * (figures // 10)), 7 ** figures])
    for places in (1, 2, 20, 1000, 1988):
        half = (3 ** places - 1) // 2
        found.extend([half - 1, half, half + 1, 3 ** places - 1, 3 ** places, 3 ** places + 1])
    return found + [-number for number in found]


def odd_kinds():
    """Things that are neither lists nor ints, and the truths."""
    return [
        None, True, False, 0.0, 1.0, -1.0, float("nan"), float("inf"), 1j, Fraction(1), Decimal(1),
        "", "0", "1", "8", ".", ">", ">.<", "[]", "[-1, 0, 1]", b"", b"\x01", bytearray(b"\x01"),
        (), (1,), (0,), (-1, 0, 1), ([1],), {}, {0: 1}, set(), {1}, frozenset([1]), range(0), range(1, 2),
        iter([1]), (lay for lay in [1]), zip([1]), memoryview(b"\x01"), object(), Ellipsis, NotImplemented,
        list, int, len, lambda: [1], ValueError("1"), Colour.RED,
        EqualToAll(), WithoutWords(), ActsAsInt(), ActsAsList(),
    ]


def lists_that_are_no_forms():
    found = [
        [0], [1, 0], [-1, 0], [0, 0], [-1, 0, 1, 0], [1] * 1999 + [0], [0] * 2000,
        [2], [-2], [3], [2, 1], [1, -2, 1], [1, 2], [1] * 1000 + [2] + [1] * 999, [1] * 1999 + [-2],
        [10 ** 949], [-10 ** 949, 1], [1, 10 ** 5000],
    ]
    endless = [1]
    endless.append(endless)
    found.append(endless)
    for odd in odd_kinds() + [[], [1], [-1, 0, 1]]:
        found.extend([[odd], [odd, 1], [1, odd], [0, odd, -1]])
    return found


def no_forms():
    return odd_kinds() + [0, 1, -1, 8, 10 ** 949, 10 ** 5000] + lists_that_are_no_forms()


def no_numbers():
    return odd_kinds() + [[], [0], [1], [-1, 0, 1], [8], [True]]


def no_places():
    return odd_kinds() + [[], [0], [1], [-1, 0, 1], -1, -2, -3, -2000, -10 ** 949, -10 ** 5000]


def other_signs():
    """Every sign from the blank to ~ that writes no lay; the percent sign is never handed in."""
    return [sign for sign in map(chr, range(ord(" "), ord("~") + 1)) if sign not in "<.>%"]


def texts_that_write_no_form():
    found = ["", "..", "...", ".>", ".<", ".>.<", "..<", ".<.", "[]", "[-1, 0, 1]", "-1", "None"]
    for sign in other_signs():
        found.extend([sign, sign + ">", ">" + sign, ">" + sign + "<", sign + ".", "." + sign, "<>" + sign + sign])
    found.extend(["." * 2000, "." + ">" * 1999, "." * 1999 + "<", "x" + ">" * 1999, "<" * 1999 + "x"])
    found.append(">" * 1000 + " " + "<" * 999)
    return found


def no_texts():
    """Whatever is no text, and each text that writes no form."""
    kinds = [thing for thing in odd_kinds() if not isinstance(thing, str)]
    lists = [[], [1], [-1, 0, 1], [">"], [">", ".", "<"], (">", ".", "<"), b">.<", bytearray(b"."), {">": 1}]
    return kinds + lists + [0, 1, -1, 8, 10 ** 949] + texts_that_write_no_form()


def assert_refused(case, refusal, deed, *handed):
    """The deed is refused with this class alone, and leaves the lists handed in as they were."""
    before = [copy.copy(thing) if isinstance(thing, list) else None for thing in handed]
    with case.assertRaises(ScaleError) as caught:
        deed(*handed)
    error = caught.exception
    case.assertIs(type(error), refusal)
    case.assertIsInstance(error, ValueError)
    for another in REFUSALS:
        if another is not refusal:
            case.assertNotIsInstance(error, another)
    for thing, was in zip(handed, before):
        if was is not None:
            case.assertEqual([id(part) for part in thing], [id(part) for part in was])


def assert_both_are_asked_to_be_forms(case, deed):
    """Whatever is no form is refused with NoForm at either argument, and at both."""
    for place, thing in enumerate(no_forms()):
        with case.subTest(deed=deed.__name__, place=place):
            for form in ([], [1], [-1, 0, 1]):
                assert_refused(case, NoForm, deed, thing, form)
                assert_refused(case, NoForm, deed, form, thing)
            assert_refused(case, NoForm, deed, thing, thing)


def assert_own_of_each_pair(case, deed, forms):
    for one in forms:
        assert_own(case, deed, one, one)
        for other in forms:
            assert_own(case, deed, one, list(other))


def assert_own(case, deed, *handed):
    """What is handed in stays, and no list that is told is met anywhere else: each is new and the asker's own."""
    kept = unshared(handed)
    first = deed(*handed)
    wanted = unshared(first)
    second = deed(*handed)
    case.assertEqual((handed, second), (kept, wanted))
    told = lists_within(first) + lists_within(second)
    case.assertEqual(len({id(part) for part in told}), len(told))
    case.assertFalse({id(part) for part in told} & {id(part) for part in lists_within(handed)})
    for part in lists_within(first):
        part.append("mine")
        part.reverse()
    case.assertEqual((handed, second, deed(*handed)), (kept, wanted, wanted))


def unshared(answer):
    """A copy in which no list stands twice, though it may have stood twice in the answer."""
    if isinstance(answer, list):
        return [unshared(part) for part in answer]
    return tuple(unshared(part) for part in answer) if isinstance(answer, tuple) else answer


def lists_within(answer):
    """The lists that an answer is made of, itself and what lies in its lists and tuples."""
    found = [answer] if isinstance(answer, list) else []
    if isinstance(answer, (list, tuple)):
        for part in answer:
            found.extend(lists_within(part))
    return found


def assert_plain_int(case, thing):
    case.assertIs(type(thing), int)


def assert_plain_form(case, thing):
    """A form by the document's words, told as a plain list of plain ints."""
    case.assertIs(type(thing), list)
    for lay in thing:
        assert_plain_int(case, lay)
        case.assertIn(lay, (-1, 0, 1))
    if thing:
        case.assertNotEqual(thing[-1], 0)
