import unittest
from itertools import product

from matesquare.errors import BadSquare, BadText
from matesquare.texts import read, shown
from tests.samples import (
    HUGE, NINE_MIXED, NINE_WITH_TWOS, OF_ALL_SIZES, ONE, SIX_WITHOUT, THREE, TWO, all_squares, seconds_for,
    things_of_other_kinds, turned, wrong_squares,
)

# Letters that no square has, capitals, signs of the text itself, blanks, and signs that look like letters.
OTHER_SIGNS = list("abcdefghijkyzABCI/\\|-_.,:;0129 \n\r\t\x00\x0b\x0c\x1c\x85") + [
    "\u00a0", "\u2028", "\u0430", "\uff41", "\u00aa", "\u00e4", "\u1d43", "\u2044", "\ud800", "\U0001d41a", "//", "ab",
]


def plain_text(square):
    text = ""
    for row in square:
        text += "/" if text else ""
        for letter in row:
            text += {0: "a", 1: "b", 2: "c", 3: "d", 4: "e", 5: "f", 6: "g", 7: "h", 8: "i"}[letter]
    return text


def small_squares():
    return all_squares(1) + all_squares(2) + all_squares(3)


def wrong_texts():
    ten = "/".join("".join("abcdefghij"[letter] for letter in row) for row in turned(10))
    nine = plain_text(turned(9))
    return [
        "", " ", "/", "//", "\n", "b", "A", "aa", "ab", "ba", "a/a", "a/b", "/a", "a/", "/a/", "a//", "a ", " a",
        "a\n", "\na", "0", "1", "-1", "a\\", "aa/aa", "ab/ab", "aa/bb", "ab/bb", "bb/bb", "ac/ca", "bc/cb",
        "ab/ba/", "/ab/ba", "ab//ba", "ab/b", "a/ba", "ab/baa", "aba/ba", "ab/ba/ab", "ab\nba", "ab ba", "ab/ba\n",
        "ab / ba", "abba", "AB/BA", "Ab/ba", "ab/bA", "01/10", "((0,),)", "((0, 1), (1, 0))", "abc/bca",
        "abc/bca/ca", "abc/bca/cabc", "abc/bca/cba", "abc/bca/cad", "abc/bca/ca/b", "ABC/BCA/CAB", "bcd/cdb/dbc",
        "abc/bca/cab/", "/abc/bca/cab", "abc//bca/cab", "abc/bca/cab/abc", "ab/bca/cab", "abc/bca/cab\x00",
        nine + "/", "/" + nine, nine[:-1], nine[1:], nine + "a", nine.upper(), nine[:80], nine[:79], nine[10:],
        nine + "/abcdefghi", nine + "/jjjjjjjjj", nine.replace("i", "j"), nine.replace("a", "j"),
        nine.replace("/", "\n"), nine.replace("/", ""), nine.replace("/", "//"), ten, ten[:-1],
        ten.replace("j", "a"), ten.replace("j", ""), "/".join(ten.split("/")[:9]), "/".join(["a"] * 10),
        "/".join(["abcdefghij"] * 10), "/" * 9, "/" * 10, "a" * 89, "a" * 10000, "/" * 10000, ten * 100,
    ]


def things_that_are_no_texts():
    return [thing for thing in things_of_other_kinds() if not isinstance(thing, str)] + [
        0, 1, HUGE, -1, ONE, TWO, turned(9), (0,), ("a",), ["a"], ["ab", "ba"], ("ab", "ba"), [["a"]], {"a": 0}, {"a"},
        b"a", b"ab/ba", bytearray(b"ab/ba"), memoryview(b"a"), iter("ab/ba"), iter(["ab/ba"]), ["ab/ba"], ("ab/ba",),
        list("ab/ba"), tuple("ab/ba"),
    ]


class Shown(unittest.TestCase):
    def test_squares_of_all_sizes(self):
        for square in list(OF_ALL_SIZES) + small_squares() + [turned(many) for many in range(1, 10)]:
            text = shown(square)
            self.assertIs(text.__class__, str)
            self.assertEqual(text, plain_text(square))

    def test_written_out(self):
        self.assertEqual(shown(ONE), "a")
        self.assertEqual(shown(TWO), "ab/ba")
        self.assertEqual(shown(((1, 0, 2), (0, 2, 1), (2, 1, 0))), "bac/acb/cba")
        self.assertEqual(shown(SIX_WITHOUT), "abcdef/bcafde/cabefd/defabc/efdcab/fdebca")
        self.assertEqual(shown(turned(9)), "abcdefghi/bcdefghia/cdefghiab/defghiabc/efghiabcd/fghiabcde/ghiabcdef/"
                                           "hiabcdefg/iabcdefgh")

    def test_what_is_no_square_is_refused(self):
        for number, wrong in enumerate(wrong_squares()):
            with self.subTest(number=number):
                self.assertRaises(BadSquare, shown, wrong)


class Read(unittest.TestCase):
    def test_squares_of_all_sizes(self):
        for square in list(OF_ALL_SIZES) + small_squares() + [turned(many) for many in range(1, 10)]:
            found = read(plain_text(square))
            self.assertEqual(found, square)
            self.assertEqual(read(shown(square)), square)
            self.assertIs(found.__class__, tuple)
            for row in found:
                self.assertIs(row.__class__, tuple)
                for letter in row:
                    self.assertIs(letter.__class__, int)

    def test_written_out(self):
        self.assertEqual(read("a"), ((0,),))
        self.assertEqual(read("ba/ab"), ((1, 0), (0, 1)))
        self.assertEqual(read("bac/acb/cba"), THREE)

    def test_all_short_texts(self):
        right = ("a", "ab/ba", "ba/ab")
        for length in range(6):
            for signs in product("abcA/ ", repeat=length):
                text = "".join(signs)
                if text in right:
                    self.assertEqual(shown(read(text)), text)
                else:
                    self.assertRaises(BadText, read, text)

    def test_three_rows_of_three_letters(self):
        right = {plain_text(square): square for square in small_squares() if len(square) == 3}
        self.assertEqual(len(right), 12)
        rows = ["".join(signs) for signs in product("abc", repeat=3)]
        for lines in product(rows, repeat=3):
            text = "/".join(lines)
            if text in right:
                self.assertEqual(read(text), right[text])
            else:
                self.assertRaises(BadText, read, text)

    def test_a_sign_too_many_too_few_or_another_one(self):
        for square in [turned(many) for many in range(1, 10)] + [SIX_WITHOUT, NINE_WITH_TWOS]:
            text = plain_text(square)
            for place in range(len(text) + 1):
                for sign in OTHER_SIGNS:
                    self.assertRaises(BadText, read, text[:place] + sign + text[place:])
                    if text[place:place + 1] != sign:
                        self.assertRaises(BadText, read, text[:place] + sign + text[place + 1:])
                if place < len(text):
                    self.assertRaises(BadText, read, text[:place] + text[place + 1:])

    def test_other_texts_are_refused(self):
        for number, wrong in enumerate(wrong_texts()):
            with self.subTest(number=number, text=wrong[:20]):
                self.assertRaises(BadText, read, wrong)

    def test_what_is_no_text_is_refused(self):
        for number, wrong in enumerate(things_that_are_no_texts()):
            with self.subTest(number=number):
                self.assertRaises(BadText, read, wrong)


class Soon(unittest.TestCase):
    def test_texts_of_size_nine_come_soon(self):
        for square in (turned(9), NINE_MIXED, NINE_WITH_TWOS):
            self.assertLess(seconds_for(shown, square), 3)
            self.assertLess(seconds_for(read, plain_text(square)), 3)


if __name__ == "__main__":
    unittest.main()
