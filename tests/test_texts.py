"""Points 15 to 19: numbers as texts, read whole and in pieces, and from amid a text; and point 1 for these."""
import itertools
import random
import unittest

from shellstair.errors import NoEnd, NoNumber, NoSign
from shellstair.rows import row_of
from shellstair.texts import Reader, in_step, read, shown, written

BOUND = 10 ** 60
NO_NUMBERS = (
    0, -1, -2, -BOUND, BOUND, BOUND + 1, 10 ** 5000, True, False, None,
    "", "1", "oo", [], [1], (), (1,), {}, 1.0, b"oo",
)
OTHER_SIGNS = ("x", "O", "0", ",", " ", "\n", "\0", "\u2024", "\uff4f", "\u043e")


def worths(count):
    told = [1, 2]
    while len(told) < count:
        told.append(told[-1] + told[-2])
    return told[:count]


def read_by_signs(text):
    """The numbers that end in the text, and what is left behind, sign by sign and by nothing of the program."""
    numbers = []
    signs = ""
    for sign in text:
        signs += sign
        if signs[-2:] == "oo":
            row = signs[:-1]
            numbers.append(sum(value for value, shell in zip(worths(len(row)), row) if shell == "o"))
            signs = ""
    return numbers, signs


def chance_text(chance, length):
    """The chance is seeded, so each run sees the same ones."""
    return "".join(chance.choice("o..") for sign in range(length))


def chance_numbers(chance, count):
    return [chance.randrange(1, 10 ** chance.choice((1, 1, 2, 5, 30, 60))) for number in range(count)]


def all_texts(length):
    for signs in itertools.product("o.", repeat=length):
        yield "".join(signs)


class Refused(unittest.TestCase):
    def check_refused(self, refusal, question, *handed):
        with self.assertRaises(refusal) as seen:
            question(*handed)
        self.assertIs(type(seen.exception), refusal)


class Shown(Refused):
    def test_written(self):
        for number, text in (
            (1, "oo"), (2, ".oo"), (3, "..oo"), (4, "o.oo"), (5, "...oo"), (6, "o..oo"), (7, ".o.oo"), (8, "....oo"),
            (11, "..o.oo"), (12, "o.o.oo"), (13, ".....oo"), (100, "..o.o....oo"),
        ):
            with self.subTest(number=number):
                self.assertEqual(shown(number), text)
                self.assertIs(type(shown(number)), str)

    def check(self, number):
        text = shown(number)
        self.assertEqual(text, "".join(".o"[shells] for shells in row_of(number)) + "o")
        self.assertEqual(read_by_signs(text), ([number], ""))
        self.assertEqual(text.find("oo"), len(text) - 2)

    def test_many_numbers(self):
        for number in range(1, 2000):
            self.check(number)

    def test_long_ones(self):
        for value in worths(288):
            for number in (value - 1, value, value + 1):
                if 0 < number < BOUND:
                    self.check(number)
        for number in (BOUND - 1, BOUND - 2, 10 ** 59, 2 ** 64):
            self.check(number)

    def test_refused(self):
        for number in NO_NUMBERS:
            self.check_refused(NoNumber, shown, number)


class Written(Refused):
    def check(self, numbers):
        kept = list(numbers)
        text = written(numbers)
        self.assertIs(type(text), str)
        self.assertEqual(numbers, kept)
        self.assertEqual(text, "".join([shown(number) for number in kept]))
        self.assertEqual(read_by_signs(text), (kept, ""))
        return text

    def test_written(self):
        self.assertEqual(self.check([]), "")
        self.assertEqual(self.check([1]), "oo")
        self.assertEqual(self.check([1, 1, 1]), "oooooo")
        self.assertEqual(self.check([1, 2, 4]), "oo.ooo.oo")
        self.assertEqual(self.check([4, 2, 1]), "o.oo.oooo")
        self.assertEqual(self.check([2, 2]), ".oo.oo")

    def test_small_lists(self):
        for length in range(4):
            for numbers in itertools.product(range(1, 9), repeat=length):
                self.check(list(numbers))

    def test_long_ones(self):
        self.check([BOUND - 1] * 13)
        self.check([1] * 2000)
        self.check(list(range(1, 300)))

    def test_refused_at_each_place(self):
        for wrong in NO_NUMBERS:
            self.check_refused(NoNumber, written, [wrong])
            for place in range(4):
                numbers = [1, 5, BOUND - 1]
                numbers.insert(place, wrong)
                kept = list(numbers)
                self.check_refused(NoNumber, written, numbers)
                self.assertEqual(numbers, kept)


class Read(Refused):
    def check(self, text):
        numbers, behind = read_by_signs(text)
        if behind:
            self.check_refused(NoEnd, read, text)
            return
        told = read(text)
        self.assertEqual(told, numbers)
        self.assertIs(type(told), list)
        for number in told:
            self.assertIs(type(number), int)
        told.append(0)
        self.assertEqual(read(text), numbers)

    def test_written(self):
        for text, numbers in (
            ("", []), ("oo", [1]), (".oo", [2]), ("o.oo", [4]), ("oooo", [1, 1]), ("oo.oo", [1, 2]), (".oooo", [2, 1]),
            ("oo.ooo.oo", [1, 2, 4]), ("o.o.oo", [12]),
        ):
            with self.subTest(text=text):
                self.assertEqual(read(text), numbers)
                self.check(text)

    def test_all_short_texts(self):
        for length in range(11):
            for text in all_texts(length):
                self.check(text)

    def test_what_is_written_is_read_back(self):
        chance = random.Random(17)
        for asked in range(100):
            numbers = chance_numbers(chance, chance.randint(0, 12))
            self.assertEqual(read(written(numbers)), numbers)
        for numbers in ([BOUND - 1] * 13, [1] * 2000, [1, BOUND - 1, 1], list(range(1, 300))):
            self.assertEqual(read(written(numbers)), numbers)

    def test_numbers_greater_than_any_that_is_written(self):
        values = worths(3999)
        self.assertEqual(read("." * 3998 + "oo"), [values[3998]])
        self.assertEqual(read("o" + "." * 3997 + "oo"), [values[3998] + 1])
        self.assertEqual(read(".o" * 1999 + "o"), [sum(values[1:3998:2])])
        self.assertEqual(read("." * 1998 + "oo" + "." * 1998 + "oo"), [values[1998]] * 2)
        self.assertGreater(read("." * 287 + "oo")[0], BOUND)
        for steps in (286, 287, 288, 299, 300, 301, 1000):
            self.check("." * steps + "oo")

    def test_signs_left_behind(self):
        for text in (
            "o", ".", "o.", ".o", "..", "ooo", "oo.", ".ooo", "oo.o.o.", "oooo.", "o.o.o.o", "." * 4000,
            "oo" * 1999 + ".o",
        ):
            with self.subTest(text=text[:20]):
                self.check_refused(NoEnd, read, text)

    def test_other_signs(self):
        for sign in OTHER_SIGNS:
            for text in ("", "oo", "o.oo", "oo.ooo.oo", ".", "o", "oo.o", "ooo"):
                for place in range(len(text) + 1):
                    self.check_refused(NoSign, read, text[:place] + sign + text[place:])

    def test_other_signs_in_long_texts(self):
        for text in ("x" + "." * 3999, "." * 3999 + "x", "oo" * 1000 + "O" + "oo" * 999 + "."):
            self.check_refused(NoSign, read, text)


class Reading(Refused):
    def feed_all(self, pieces):
        """Feeds the pieces, sees that each tells just what ends in it, and what is left; tells all numbers."""
        reader = Reader()
        taken = ""
        numbers = []
        self.assertEqual(reader.left(), "")
        for piece in pieces:
            taken += piece
            told = reader.feed(piece)
            self.assertIs(type(told), list)
            numbers += told
            ended, behind = read_by_signs(taken)
            self.assertEqual(numbers, ended, pieces)
            self.assertEqual(reader.left(), behind, pieces)
            self.assertEqual(reader.left(), behind, pieces)
            told.append(0)
        return numbers

    def test_fed_nothing(self):
        reader = Reader()
        self.assertEqual(reader.left(), "")
        self.assertIs(type(reader.left()), str)
        self.assertEqual(reader.feed(""), [])
        self.assertEqual(reader.left(), "")

    def test_written(self):
        reader = Reader()
        self.assertEqual((reader.feed("o"), reader.left()), ([], "o"))
        self.assertEqual((reader.feed(""), reader.left()), ([], "o"))
        self.assertEqual((reader.feed("o"), reader.left()), ([1], ""))
        self.assertEqual((reader.feed("o"), reader.left()), ([], "o"))
        self.assertEqual((reader.feed(".o"), reader.left()), ([], "o.o"))
        self.assertEqual((reader.feed("o.oo."), reader.left()), ([4, 2], "."))
        self.assertEqual((reader.feed("ooooo"), reader.left()), ([2, 1], "o"))

    def test_all_short_texts_cut_in_two_and_three(self):
        for length in range(8):
            for text in all_texts(length):
                for first, second in itertools.combinations_with_replacement(range(length + 1), 2):
                    self.feed_all([text[:first], text[first:second], text[second:]])
                self.feed_all([text])
                self.feed_all(list(text))

    def test_chance_cuts(self):
        chance = random.Random(18)
        for asked in range(40):
            numbers = chance_numbers(chance, chance.randint(0, 8))
            text = written(numbers)
            cuts = sorted(chance.randint(0, len(text)) for cut in range(chance.randint(0, 12)))
            pieces = [text[begin:end] for begin, end in zip([0] + cuts, cuts + [len(text)])]
            self.assertEqual("".join(pieces), text)
            self.assertEqual(self.feed_all(pieces), numbers)

    def test_4000_signs_one_by_one(self):
        chance = random.Random(4000)
        text = chance_text(chance, 4000)
        reader = Reader()
        told = [number for sign in text for number in reader.feed(sign)]
        self.assertEqual((told, reader.left()), read_by_signs(text))

    def test_4000_signs_to_one_number(self):
        reader = Reader()
        for sign in "." * 3998 + "o":
            self.assertEqual(reader.feed(sign), [])
        self.assertEqual(reader.left(), "." * 3998 + "o")
        self.assertEqual(reader.feed("o"), worths(3999)[-1:])
        self.assertEqual(reader.left(), "")

    def test_as_reading_of_the_whole_text_up_to_the_last_end(self):
        chance = random.Random(81)
        for asked in range(100):
            text = chance_text(chance, chance.randint(0, 40))
            reader = Reader()
            told = reader.feed(text[:20]) + reader.feed(text[20:])
            self.assertEqual(told, read(text[:len(text) - len(reader.left())]))
            self.assertTrue(text.endswith(reader.left()))

    def test_a_refused_piece_changes_nothing(self):
        for begun in ("", "o", ".", "o.o", "oo.o"):
            for sign in OTHER_SIGNS:
                for shape in ("x", "ox", ".x", "oox", "ooooo.oox", "xoo", "ooxoo"):
                    wrong = shape.replace("x", sign)
                    reader = Reader()
                    reader.feed(begun)
                    behind = reader.left()
                    self.check_refused(NoSign, reader.feed, wrong)
                    self.assertEqual(reader.left(), behind)
                    self.check_refused(NoSign, reader.feed, wrong)
                    self.assertEqual(reader.feed(""), [])
                    self.assertEqual(reader.left(), behind)
                    self.assertEqual(reader.feed("o.oo"), read_by_signs(behind + "o.oo")[0])

    def test_two_readers_side_by_side(self):
        one, other = Reader(), Reader()
        self.assertEqual(one.feed("o."), [])
        self.assertEqual(other.left(), "")
        self.assertEqual(other.feed("..o"), [])
        self.assertEqual(one.left(), "o.")
        self.assertEqual(one.feed("oo"), [4])
        self.assertEqual(other.left(), "..o")
        self.assertEqual(other.feed("oo"), [3])
        self.assertEqual((one.left(), other.left()), ("", "o"))
        self.assertEqual(Reader().left(), "")

    def test_told_lists_are_the_askers_own(self):
        reader = Reader()
        first = reader.feed("oo.ooo")
        self.assertEqual(first, [1, 2])
        second = reader.feed(".oo")
        self.assertEqual((first, second), ([1, 2], [4]))
        first.append(9)
        second.clear()
        self.assertEqual(reader.feed(""), [])
        third = reader.feed("oo")
        self.assertEqual((first, second, third, reader.left()), ([1, 2, 9], [], [1], ""))
        third.append(7)
        self.assertEqual(reader.feed("oo"), [1])


class InStep(unittest.TestCase):
    def check(self, text, place):
        found = [begin + 3 for begin in range(place, len(text)) if text[begin:begin + 3] == ".oo"]
        told = in_step(text, place)
        self.assertEqual(told, found[0] if found else None, (text, place))
        self.assertIn(type(told), (int, type(None)))
        return told

    def test_written(self):
        for text, place, told in (
            ("", 0, None), (".oo", 0, 3), (".oo", 1, None), (".oo", 2, None), (".oo", 3, None), ("oo", 0, None),
            ("o.oo", 0, 4), ("o.oo", 1, 4), ("o.oo", 2, None), (".oo.oo", 0, 3), (".oo.oo", 1, 6), (".oo.oo", 3, 6),
            (".oo.oo", 4, None), ("..ooo", 0, 4), ("oooo", 0, None), ("..o.", 0, None), (".o.o.oo.oo", 0, 7),
        ):
            with self.subTest(text=text, place=place):
                self.assertEqual(in_step(text, place), told)

    def test_all_short_texts_at_each_place(self):
        for length in range(10):
            for text in all_texts(length):
                for place in range(length + 1):
                    self.check(text, place)

    def test_long_texts(self):
        for text in ("." * 4000, "o" * 4000, "." * 3998 + "oo", ".oo" + "o." * 1998, ".oo" * 1333 + "o"):
            for place in (0, 1, 2, 3, 1999, 2000, len(text) - 3, len(text) - 2, len(text) - 1, len(text)):
                self.check(text, place)

    def check_reading_on(self, numbers):
        text = written(numbers)
        begins = list(itertools.accumulate([len(shown(number)) for number in numbers], initial=0))[:-1]
        for place in range(len(text) + 1):
            told = self.check(text, place)
            if told is not None:
                self.assertEqual(read(text[told:]), [number for number, begin in zip(numbers, begins) if begin >= told])

    def test_reading_from_the_told_place_on(self):
        for length in range(4):
            for numbers in itertools.product(range(1, 8), repeat=length):
                self.check_reading_on(list(numbers))
        chance = random.Random(19)
        for asked in range(8):
            self.check_reading_on(chance_numbers(chance, chance.randint(1, 8)))


if __name__ == "__main__":
    unittest.main()
