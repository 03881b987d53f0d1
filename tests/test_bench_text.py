"""Section 5: the form of the text of a bench, and the number of the line
that BadBench tells."""

import unittest

from rangehunt.benches import Bench
from rangehunt.errors import BadBench
from tests.bench_reader import wrong_line
from tests.tools import FULL, PAIR, Case, any_values

LINES = FULL.split("\n")


def edited(number, *lines):
    """FULL with these lines in the place of the one with this number."""
    return "\n".join(LINES[:number - 1] + list(lines) + LINES[number:])


def with_word(number, old, new):
    """FULL with another word in the line with this number."""
    words = LINES[number - 1].split(" ")
    words[words.index(old)] = new
    return edited(number, " ".join(words))


class Told(Case):
    """Numbers as they follow from the document, one by one."""

    def assert_wrong(self, number, text):
        self.assert_number(BadBench, number, Bench, text)

    def test_no_string(self):
        for value in any_values():
            if not isinstance(value, str):
                with self.subTest(value=value):
                    self.assert_wrong(0, value)
        self.assert_wrong(0, LINES)
        self.assert_wrong(0, tuple(LINES))

    def test_no_signs_and_line_feeds(self):
        self.assert_wrong(1, "")
        self.assert_wrong(1, "\n")
        self.assert_wrong(1, "\n" + FULL)
        self.assert_wrong(15, FULL + "\n")
        self.assert_wrong(15, FULL + "\n\n")
        self.assert_wrong(7, PAIR + "\n")
        for number in range(1, 15):
            self.assert_wrong(number, edited(number, "", LINES[number - 1]))
            self.assert_wrong(number, edited(number, ""))

    def test_a_line_is_missing_at_the_end(self):
        ends = {5: True, 7: True, 12: True, 13: True, 14: True}
        for many in range(1, 15):
            text = "\n".join(LINES[:many])
            if many in ends:
                self.assertEqual(Bench(text).text, text)
            else:
                self.assert_wrong(many + 1, text)

    def test_a_line_is_left_out(self):
        # None: what is left is a bench.
        wanted = (None, 2, 3, 4, 5, 6, 7, 8, 9, None, None, 12, None, None)
        for number, wrong in enumerate(wanted, 1):
            text = edited(number)
            if wrong is None:
                self.assertEqual(Bench(text).text, text)
            else:
                self.assert_wrong(wrong, text)

    def test_a_line_stands_twice(self):
        for number in range(1, 15):
            self.assert_wrong(number + 1, edited(number, LINES[number - 1], LINES[number - 1]))

    def test_spread(self):
        for word in ("0", "21", "22", "99", "100", "03", "020", "-1", "+3", "3.0", "1/2", "3/1", "x", "", "3 ", " 3",
                     "3 3"):
            with self.subTest(word=word):
                self.assert_wrong(1, edited(1, f"spread {word}"))
        for line in ("spread", "Spread 3", "spread3", " spread 3", "spread  3", "spreads 3", "3 spread"):
            self.assert_wrong(1, edited(1, line))
        self.assert_wrong(2, "spread 3\nspread 3\n" + PAIR)
        self.assert_wrong(7, PAIR + "\nspread 3")
        self.assert_wrong(2, "meter m\nspread 3\n  range a load 1 unit 1")
        self.assert_wrong(2, "spread 20")
        for word in ("1", "9", "10", "19", "20"):
            self.assertEqual(Bench(edited(1, f"spread {word}")).spread, int(word))

    def test_meters(self):
        for line in ("meter", "meter ", "meter wide ", " meter wide", "meter  wide", "meter wide wide", "meters wide",
                     "Meter wide", "meterwide", "meter Wide", "meter w1de", "meter wide-", "meter widewidew", "meter 1",
                     "meter w_", "meter -", "wide meter", "  meter wide"):
            with self.subTest(line=line):
                self.assert_wrong(2, edited(2, line))
        self.assertEqual(Bench(edited(2, "meter abcdefgz")).meters[0], "abcdefgz")
        self.assert_wrong(6, edited(6, "meter wide"))
        self.assert_wrong(8, edited(8, "meter wid"))
        self.assert_wrong(8, edited(8, "meter wide"))
        self.assert_wrong(13, edited(13, "meter four", "  range a load 1 unit 1"))
        self.assert_wrong(15, FULL + "\nmeter four")

    def test_form_of_ranges(self):
        for line in ("range low load 2 unit 1/10 up 4", " range low load 2 unit 1/10 up 4",
                     "   range low load 2 unit 1/10 up 4", "  range low load 2 unit 1/10 up 4 ",
                     "  range low load 2 unit 1/10  up 4", "  range load 2 unit 1/10 up 4", "  range low load 2 up 4",
                     "  range low unit 1/10 load 2 up 4", "  range low load 2 unit 1/10 up", "  range low load 2 unit",
                     "  range low load 2 unit 1/10 up 4 up 4", "  range low load 2 unit 1/10 4", "  range low load 2",
                     "  range low load 2 unit 1/10 down 1 up 4", "  range low load 2 unit 1/10 down 1", "  range low",
                     "  range low load 2 unit 1/10 up 4 down 1", "  Range low load 2 unit 1/10 up 4", "  range", "  ",
                     "  meter low load 2 unit 1/10 up 4", "  range Low load 2 unit 1/10 up 4", "meter low",
                     "  range lowerlowe load 2 unit 1/10 up 4", "  range  load 2 unit 1/10 up 4", "load low 1",
                     "  low load 2 unit 1"):
            with self.subTest(line=line):
                self.assert_wrong(3, edited(3, line))
        for line in ("  range lower load 1 unit 1/2 up 9/2", "  range lower load 1 unit 1/2",
                     "  range lower load 1 unit 1/2 up 9/2 down 2", "  range lower load 1 unit 1/2 down 2 up",
                     "  range lower load 1 unit 1/2 down up 9/2", "  range low load 1 unit 1/2 down 2 up 9/2"):
            with self.subTest(line=line):
                self.assert_wrong(4, edited(4, line))

    def test_names_of_ranges(self):
        self.assert_wrong(4, with_word(4, "lower", "low"))
        self.assert_wrong(5, with_word(5, "high", "low"))
        self.assert_wrong(5, with_word(5, "high", "lower"))
        self.assert_wrong(12, with_word(12, "a", "d"))
        for name in ("wide", "lamp", "d", "range", "unit", "down", "up", "abcdefgh"):
            self.assertEqual(Bench(with_word(5, "high", name))["wide"][2][0], name)

    def test_first_and_last_ranges(self):
        # Behind a range without an upper threshold no further one can stand.
        self.assert_wrong(4, edited(3, "  range low load 2 unit 1/10"))
        self.assert_wrong(5, edited(4, "  range lower load 1/3 unit 1/2 down 2"))
        self.assert_wrong(8, edited(7, LINES[6], "  range more load 1 unit 1 down 1"))
        # Behind one with an upper threshold a further one must stand.
        self.assert_wrong(6, edited(5, LINES[4] + " up 5"))
        self.assert_wrong(8, edited(7, LINES[6] + " up 5"))
        # The fourth one has none.
        self.assert_wrong(12, edited(12, LINES[11] + " up 9999"))
        higher = LINES[10].replace("9999", "9998")
        self.assert_wrong(12, edited(11, higher, LINES[11].replace("9998/9999", "1") + " up 9999"))
        self.assert_wrong(13, edited(12, LINES[11], "  range e load 1 unit 1 down 1"))

    def test_ratios(self):
        bad = (
            "", "00", "01", "02", "0/1", "0/2", "2/1", "4/2", "2/4", "1/0", "0/0", "1/02", "01/2", "1/1", "9999/3333",
            "10000", "1/10000", "10000/9999", "99999", "1/99999", "123456789", "-1", "-1/2", "1/-2", "+1", "1.5",
            "1/2/3", "/2", "1/", "/", "x", "1e3", "1_0", "0x1", "(1,2)", "1//2",
        )
        places = ((3, "2"), (3, "1/10"), (3, "4"), (4, "1/3"), (4, "2"), (4, "9/2"), (5, "9/2"), (13, "7"))
        for word in bad:
            for number, old in places:
                with self.subTest(word=word, number=number, old=old):
                    self.assert_wrong(number, with_word(number, old, word))
        for word, wanted in (("1", (1, 1)), ("9999", (9999, 1)), ("1/9999", (1, 9999)), ("9998/9999", (9998, 9999)),
                             ("10/3", (10, 3)), ("1000/9", (1000, 9)), ("0", (0, 1))):
            self.assert_same(Bench(with_word(3, "2", word))["wide"][0][1], wanted)
            self.assert_same(Bench(with_word(14, "0", word)).load("lamp"), wanted)
            if word != "0":
                self.assert_same(Bench(with_word(3, "1/10", word))["wide"][0][2], wanted)

    def test_zero(self):
        self.assert_wrong(3, with_word(3, "1/10", "0"))
        self.assert_wrong(4, with_word(4, "1/2", "0"))
        self.assert_wrong(3, with_word(3, "4", "0"))
        self.assert_wrong(4, with_word(4, "9/2", "0"))
        self.assertEqual(Bench(with_word(4, "2", "0"))["wide"][1][3], (0, 1))
        self.assertEqual(Bench(with_word(5, "4", "0"))["wide"][2][1], (0, 1))

    def test_sequence_of_thresholds(self):
        for word in ("4", "399/100", "1/9999", "2"):
            self.assert_wrong(4, with_word(4, "9/2", word))
        self.assertEqual(Bench(with_word(4, "9/2", "401/100").replace("down 9/2", "down 4"))["wide"][1][4], (401, 100))
        for word in ("401/100", "9999", "9/2"):
            self.assert_wrong(4, with_word(4, "2", word))
        for word in ("4", "399/100", "0"):
            self.assertEqual(Bench(with_word(4, "2", word)).text, with_word(4, "2", word))
        for word in ("4501/1000", "5"):
            self.assert_wrong(5, with_word(5, "9/2", word))
        # As it is written: the spread does not count.
        self.assert_wrong(4, "spread 20\nmeter m\n  range a load 1 unit 1 up 4\n  range b load 1 unit 1 down 5")
        # Each D beside the U just ahead of it, not beside that of the same range.
        three = (
            "meter m\n  range a load 1 unit 1 up 2\n  range b load 1 unit 1 down {} up 5\n"
            "  range c load 1 unit 1 down {}"
        )
        self.assert_wrong(3, three.format("3", "5"))
        self.assert_wrong(4, three.format("2", "6"))
        self.assertEqual(len(Bench(three.format("2", "5"))["m"]), 3)
        self.assertEqual(len(Bench(three.format("1", "1/2"))["m"]), 3)

    def test_loads(self):
        for line in ("load", "load wide", "load 7", "load wide 7 ", " load wide 7", "  load wide 7", "load  wide 7",
                     "load wide  7", "load wide 7 7", "Load wide 7", "loads wide 7", "load Wide 7", "load widewidew 7",
                     "load 7 wide", "load  7", "load wide load 7", "load w1 7"):
            with self.subTest(line=line):
                self.assert_wrong(13, edited(13, line))
        self.assert_wrong(14, edited(14, "load wide 8"))
        self.assert_wrong(15, FULL + "\nload third 1")
        self.assert_wrong(7, edited(7, "load early 1", LINES[6]))
        self.assert_wrong(9, edited(8, "load early 1", LINES[7]))
        self.assert_wrong(2, edited(2, "load early 1", LINES[1]))
        self.assert_wrong(14, edited(14, "meter late", "  range a load 1 unit 1"))

    def test_the_first_wrong_line_counts(self):
        self.assert_wrong(4, with_word(4, "lower", "low").replace("load lamp 0", "load lamp 00"))
        self.assert_wrong(1, FULL.replace("spread 3", "spread 0").replace("meter wid\n", "meter wide\n"))
        self.assert_wrong(13, with_word(13, "7", "07") + "\n")


class Changed(Case):
    """Many changed texts, beside the other reader of the tests."""

    def assert_read(self, text):
        wanted = wrong_line(text)
        with self.subTest(text=text):
            if wanted is None:
                self.assertEqual(Bench(text).text, text)
            else:
                self.assert_number(BadBench, wanted, Bench, text)

    def bases(self):
        plain = "\n".join(LINES[1:])
        words = "spread 20\nmeter load\n  range meter load 1 unit 2\nload load 1"
        return (FULL, PAIR, plain, PAIR + "\nload a 1", words)

    def test_the_other_reader(self):
        for text in self.bases():
            self.assertIsNone(wrong_line(text))
            self.assertEqual(Bench(text).text, text)

    def test_lines_out_twice_and_exchanged(self):
        for base in self.bases():
            lines = base.split("\n")
            for k in range(len(lines)):
                self.assert_read("\n".join(lines[:k] + lines[k + 1:]))
                self.assert_read("\n".join(lines[:k + 1] + lines[k:]))
                self.assert_read("\n".join(lines[:k]))
                self.assert_read("\n".join(lines[k:]))
                for j in range(k):
                    changed = list(lines)
                    changed[k], changed[j] = lines[j], lines[k]
                    self.assert_read("\n".join(changed))
                    self.assert_read("\n".join(lines[:j] + [lines[k]] + lines[j:]))
                    self.assert_read("\n".join(lines[:k + 1] + [lines[j]] + lines[k + 1:]))

    def test_cut_off(self):
        for base in self.bases():
            for k in range(len(base)):
                self.assert_read(base[:k])
                self.assert_read(base[k:])
            lines = base.split("\n")
            for number, line in enumerate(lines):
                for k in range(len(line)):
                    self.assert_read("\n".join(lines[:number] + [line[:k]] + lines[number + 1:]))

    def test_signs_more_and_less(self):
        for base in self.bases():
            for k in range(len(base) + 1):
                self.assert_read(base[:k] + base[k + 1:])
                for sign in (" ", "\n", "0", "1", "a", "/", "-"):
                    self.assert_read(base[:k] + sign + base[k:])
                    self.assert_read(base[:k] + sign + base[k + 1:])

    def test_words_more_and_less(self):
        for base in self.bases():
            lines = base.split("\n")
            for number, line in enumerate(lines):
                words = line.split(" ")
                for k in range(len(words) + 1):
                    rows = [words[:k] + words[k + 1:], words[:k + 1] + words[k:], words[:k] + words[k + 2:]]
                    for more in ("1", "a", "up 9998", "down 1", "load", "9999/9998"):
                        rows.append(words[:k] + [more] + words[k:])
                        rows.append(words[:k] + [more] + words[k + 1:])
                    for row in rows:
                        self.assert_read("\n".join(lines[:number] + [" ".join(row)] + lines[number + 1:]))


if __name__ == "__main__":
    unittest.main()
