import unittest

from right_contents import DATA, HEAD, KEY, LIST, LISTS, MARKS, RIGHT, SMALL_HEAD, TEXTS, with_place
from stillfiles.contents import is_content
from stillfiles.contenttexts import read_content, show_content
from stillfiles.errors import NoText
from things import ANYTHING, LARGE

HEAD_LINES = show_content(HEAD).split("\n")
SMALL_LINES = show_content(SMALL_HEAD).split("\n")
NO_NUMBERS = ("", "-", "-1", "+1", "01", "00", "1.0", "1_0", "a", ".", ".1", "\u00b2", "\u0661", "1\t", "1\r", "--1", "-0")
NO_WORTHS = ("", "--", "-0", "-00", "+1", "01", "-01", "1a", "a", ".A", ".a1", ".abcdefghi", "..", "a.", ".a.", "'a'",
             "1000000000001", "-1000000000001", "--1", "1-", "None", "True", "\u0661", "\t", ".a\t", "- ", ".\u00e4")


def no_files(letter):
    ends = ("", "0", "01", "-1", "a", "1a", "\u00b2")
    return (*[letter + end for end in ends], "1", "-", ".", letter.upper() + "1", *[x + "1" for x in "dmklsh" if x != letter])


class Texts(unittest.TestCase):
    def refused(self, text, row):
        with self.assertRaises(NoText) as caught:
            told = read_content(text)
            self.fail((text, told))
        self.assertEqual((vars(caught.exception), type(caught.exception.row)), ({"row": row}, int), text)

    def refused_line(self, lines, row, others):
        """Each of these in the place of the one line is refused there."""
        for line in others:
            self.refused("\n".join([*lines[:row], line, *lines[row + 1:]]), row)

    def refused_word(self, lines, row, place, others):
        words = lines[row].split(" ")
        for word in others:
            line = " ".join([*words[:place], word, *words[place + 1:]])
            if line != lines[row]:
                self.refused_line(lines, row, (line,))

    def read_word(self, lines, row, place, others):
        words = lines[row].split(" ")
        for word in others:
            line = " ".join([*words[:place], word, *words[place + 1:]])
            text = "\n".join([*lines[:row], line, *lines[row + 1:]])
            self.assertEqual(show_content(read_content(text)), text)


class Written(Texts):
    def test_sign_by_sign(self):
        for content, text in TEXTS:
            self.assertEqual(show_content(content), text)
            self.assertEqual(show_content(content=content), text)

    def test_read_is_the_very_content(self):
        for content, text in TEXTS:
            self.assertEqual(repr(read_content(text)), repr(content))
            self.assertEqual(repr(read_content(text=text)), repr(content))

    def test_all_right_ones_are_read_back(self):
        for content in RIGHT:
            self.assertIs(is_content(content), True)
            self.assertEqual(repr(read_content(show_content(content))), repr(content))

    def test_all_sorts_of_worths(self):
        for worth, word in ((None, "-"), (0, "0"), (-1, "-1"), (10, "10"), (10 ** 12, "1000000000000"), ("", "."),
                            (-10 ** 12, "-1000000000000"), ("a", ".a"), ("abcdefgh", ".abcdefgh"), ("none", ".none")):
            for content, text in ((("key", 7, worth), "key 7 {}"),
                                  (("data", 0, 1, (worth,), ((worth, 5),)), "data 0 1 {}\nrow {} 5"),
                                  (("lists", (("l1", 0, 0, ((1, worth, worth, 0, 0),)),)), "lists\nl1 0 0 1 1 {} {} 0 0"),
                                  (("list", (("key", "k1", 0, 1, worth),)), "list\nkey k1 0 1 {}")):
                self.assertEqual(show_content(content), text.format(word, word))
                self.assertEqual(read_content(text.format(word, word)), content)

    def test_large_ones(self):
        rows = tuple((k, "abc", None) for k in range(15_000))
        entries = tuple(("data", f"d{k}", k, 1, 0, 0, (k,), ((1, k, k, 0),)) for k in range(1, 4_000))
        commits = tuple((k, "put", "a", k, k, f"s{k + 1}", 0, 0) for k in range(6_000))
        for content in (("data", 0, 0, (), rows), ("marks", "d1", tuple(range(59_000))), ("list", entries),
                        with_place(SMALL_HEAD, (5,), commits), ("key", LARGE, None)):
            self.assertEqual(read_content(show_content(content)), content)

    def test_what_is_handed_in_stays_and_is_told_the_same(self):
        self.assertEqual(show_content(HEAD), show_content(HEAD))
        self.assertEqual(read_content(show_content(HEAD)), read_content(show_content(HEAD)))


class AllSix(Texts):
    def test_no_text(self):
        for thing in ANYTHING:
            self.refused(thing, 0)
        for thing in (b"lists", ("lists",), DATA, ["lists"]):
            self.refused(thing, 0)

    def test_first_words(self):
        for text in ("", " ", "\n", "\n\n", "heads", "Lists", "lists ", " lists", "row 1", "rule", "d", "\tlists", "lists\r",
                     "DATA 0 0\nrow 1", "entry", "-", ".data", "data0 0", "\nlists", "lists\tl1 0 0 0"):
            self.refused(text, 0)

    def test_lines_that_lack(self):
        for _, text in TEXTS:
            lines = text.split("\n")
            for many in range(1, len(lines)):
                begun = "\n".join(lines[:many])
                complete = lines[0] == "list" or lines[0] == "lists" or lines[0].startswith("data")
                if complete and (many > 1 or lines[0] == "lists"):
                    self.assertEqual(show_content(read_content(begun)), begun)
                elif lines[0].startswith("head") and any(line.startswith("commit") for line in lines[:many]):
                    self.assertEqual(show_content(read_content(begun)), begun)
                else:
                    self.refused(begun, many)

    def test_a_line_more_and_a_line_end_at_the_end(self):
        for _, text in TEXTS:
            many = text.count("\n") + 1
            for more in ("", "\n", " ", "\nrow", "x", "lists", "head a 2", "shape 1 a word -", "rule", "\nx", "0", "-"):
                self.refused(text + "\n" + more, many)

    def test_a_line_between(self):
        for _, text in TEXTS:
            lines = text.split("\n")
            for row in range(len(lines)):
                for line in ("", " ", "x", "-", "1", "lists", "list", "head a 2", "key 1 1", "marks d1 0", "data 0 0"):
                    if row > 0 or line in ("", " ", "x", "-", "1"):
                        self.refused("\n".join([*lines[:row], line, *lines[row:]]), row)

    def test_blanks(self):
        for _, text in TEXTS:
            lines = text.split("\n")
            for row, line in enumerate(lines):
                others = [" " + line, line + " ", line + "  ", line + "\t", line + "\r", line.replace(" ", "\t")]
                others.extend(line[:k] + " " + line[k:] for k, sign in enumerate(line) if sign == " ")
                self.refused_line(lines, row, [other for other in others if other != line])

    def test_noughts_and_signs_ahead(self):
        for _, text in TEXTS:
            lines = text.split("\n")
            for row, line in enumerate(lines):
                for place, word in enumerate(line.split(" ")):
                    if word.strip("0123456789") == "":
                        self.refused_word(lines, row, place, ("0" + word, "00" + word, "+" + word, word + ".", "-0" + word))
                    elif word.startswith("-") and word != "-":
                        self.refused_word(lines, row, place, ("-0" + word[1:], "-" + word, "+" + word, "- " + word[1:]))

    def test_strange_words_at_each_place(self):
        strange = ("", "?", "A", "a b", "/", "..", "--", "-a", "\u00e4", "[]", "None", "1000000000001x", "D1")
        for _, text in TEXTS:
            lines = text.split("\n")
            for row, line in enumerate(lines):
                for place in range(len(line.split(" "))):
                    self.refused_word(lines, row, place, strange)

    def test_strange_signs(self):
        for _, text in TEXTS:
            for sign in ("\r", "\t", "\v", "\f", "\x00", "\u2028", "\u0085", "\x1c", "~", ":", ","):
                for place in range(len(text) + 1):
                    self.refused(text[:place] + sign + text[place:], text[:place].count("\n"))


class Data(Texts):
    LINES = ["data 3 4 1 - .a", "row 1 .a", "row - 5", "row . -5"]

    def test_first_line(self):
        for place in (1, 2):
            self.refused_word(self.LINES, 0, place, NO_NUMBERS)
            self.read_word(self.LINES, 0, place, ("0", "1", "99"))
        for place in (3, 4, 5):
            self.refused_word(self.LINES, 0, place, NO_WORTHS)
            self.read_word(self.LINES, 0, place, ("0", "-", ".", "-5"))
        self.refused_line(self.LINES, 0, ("data", "data 0", "data 0 0 1 2 3 4", "data - 0", "data .a 0", "data 0 -1"))

    def test_rows(self):
        self.refused_line(self.LINES, 1, ("row", "row ", "rows 1 2", "1 2", "row 1 2 3 4 5 6 7 8 9", "Row 1 2"))
        for place in (1, 2):
            self.refused_word(self.LINES, 2, place, NO_WORTHS)

    def test_rows_of_another_length(self):
        for row in (2, 3):
            self.refused_line(self.LINES, row, ("row", "row 1", "row 1 2 3", "row 1 2 3 4 5 6 7 8 9"))
        self.refused("data 0 0\nrow 1\nrow 1 2\nwrong", 2)
        self.refused("data 0 0\nrow 1\nwrong\nrow 1 2", 2)
        self.refused("data 0 0\nrow 1 2\nrow 1", 2)
        self.refused("data 0 0\nrow 1 2 A\nrow 1 2", 1)

    def test_one_to_eight_worths(self):
        self.assertEqual(read_content("data 0 0\nrow 1 2 3 4 5 6 7 8")[4], ((1, 2, 3, 4, 5, 6, 7, 8),))
        self.refused("data 0 0\nrow 1 2 3 4 5 6 7 8 9", 1)
        self.refused("data 0 0\nrow", 1)
        self.refused("data 0 0", 1)


class MarksAndKey(Texts):
    def test_marks(self):
        self.refused_word(["marks d5 0 3 8"], 0, 1, no_files("d"))
        for place in (2, 3, 4):
            self.refused_word(["marks d5 0 3 8"], 0, place, NO_NUMBERS)
        for text in ("marks", "marks d5", "marks d5 ", "marks 5", "marks d5 0 0", "marks d5 3 2", "marks d5 0 3 3",
                     "marks d5 -1 0", "marks d5 -", "marks d5 .a", "marks 0 d5"):
            self.refused(text, 0)
            self.refused(text + "\nmarks d5 0", 0)
        self.refused("marks d5 0\nmarks d6 0", 1)
        self.refused("marks d5 0\n0", 1)

    def test_key(self):
        self.refused_word(["key 5 .a"], 0, 1, (*NO_NUMBERS, "0"))
        self.refused_word(["key 5 .a"], 0, 2, NO_WORTHS)
        for text in ("key", "key 5", "key 5 ", "key 5 5 5", "key .a 5", "key - 5", "key 0 5"):
            self.refused(text, 0)
            self.refused(text + "\nkey 5 5", 0)
        self.refused("key 5 5\nkey 5 5", 1)


class ListTexts(Texts):
    LINES = show_content(LIST).split("\n")

    def test_first_line(self):
        self.refused_line(self.LINES, 0, ("list ", "list 1", "list list", "list -", "lists 1"))
        self.refused("list", 1)
        self.refused("\n".join(["lists", *self.LINES[1:]]), 1)

    def test_data_entry(self):
        self.refused_word(self.LINES, 1, 0, ("marks", "key", "row", "list", "Data"))
        self.refused_word(self.LINES, 1, 1, no_files("d"))
        for place in (2, 3, 4, 5):
            self.refused_word(self.LINES, 1, place, NO_NUMBERS)
        self.refused_word(self.LINES, 1, 3, ("0",))
        for place in (2, 4, 5):
            self.read_word(self.LINES, 1, place, ("0", "7", "1000"))

    def test_counts_of_a_data_entry(self):
        line = "data d1 0 3 0 1 {} {}"
        right = (("0", "0"), ("1 5", "0"), ("3 5 - .a", "0"), ("0", "1 1 - - 0"), ("1 .a", "2 1 - - 0 2 5 6 0"),
                 ("0", "8" + " 1 - - 0" * 8))
        for part, spans in right:
            text = "list\n" + line.format(part, spans)
            self.assertEqual(show_content(read_content(text)), text)
        wrong = (("0", ""), ("", "0"), ("1", "0"), ("0 5", "0"), ("2 5", "0"), ("4 1 2 3 4", "0"), ("-", "0"),
                 ("00", "0"), ("0", "1"), ("0", "1 1 - -"), ("0", "1 1 - - 0 0"), ("0", "2 1 - - 0"), ("0", "0 1 - - 0"),
                 ("0", "9" + " 1 - - 0" * 9), ("0", "-"), ("0", "01 1 - - 0"), ("9" * 40, "0"), ("0", "9" * 40),
                 ("1 5", "0 0"), (".a", "0"), ("0", ".a"), ("1 a", "0"))
        for part, spans in wrong:
            self.refused("list\nkey k1 0 1 -\n" + line.format(part, spans) + "\nwrong", 2)
        for line in ("data", "data d1", "data d1 0 3 0 1", "data d1 0 3 0 1 0", "data d1 0 3 0"):
            self.refused("list\n" + line, 1)

    def test_spans(self):
        lines = ["list", "data d1 0 3 0 1 1 .a 2 1 5 6 0 2 .a .b 9"]
        for place in (9, 13):
            self.refused_word(lines, 1, place, (*NO_NUMBERS, "0"))
        for place in (10, 11, 14, 15, 7):
            self.refused_word(lines, 1, place, NO_WORTHS)
            self.read_word(lines, 1, place, ("-", "0", ".", "-3"))
        for place in (12, 16):
            self.refused_word(lines, 1, place, NO_NUMBERS)
            self.read_word(lines, 1, place, ("0", "1", "90"))

    def test_marks_and_key_entries(self):
        self.refused_word(self.LINES, 3, 0, ("mark", "data", "key", "row"))
        self.refused_word(self.LINES, 3, 1, no_files("m"))
        self.refused_word(self.LINES, 3, 2, NO_NUMBERS)
        self.refused_word(self.LINES, 3, 3, no_files("d"))
        self.refused_word(self.LINES, 3, 4, (*NO_NUMBERS, "0"))
        self.refused_word(self.LINES, 4, 0, ("keys", "data", "marks", "row"))
        self.refused_word(self.LINES, 4, 1, no_files("k"))
        self.refused_word(self.LINES, 4, 2, NO_NUMBERS)
        self.refused_word(self.LINES, 4, 3, (*NO_NUMBERS, "0"))
        self.refused_word(self.LINES, 5, 4, NO_WORTHS)
        for row in (3, 4):
            line = self.LINES[row]
            self.refused_line(self.LINES, row, (line + " 0", line.rpartition(" ")[0], line.partition(" ")[0]))


class ListsTexts(Texts):
    LINES = show_content(LISTS).split("\n")

    def test_first_line(self):
        self.refused_line(self.LINES, 0, ("lists ", "lists 1", "list 1"))
        self.refused("\n".join(["list", *self.LINES[1:]]), 1)

    def test_rows(self):
        self.refused_word(self.LINES, 1, 0, no_files("l"))
        for place in (1, 2, 3):
            self.refused_word(self.LINES, 1, place, NO_NUMBERS)
        for place in (1, 2):
            self.read_word(self.LINES, 1, place, ("0", "1", "55"))
        for line in ("l5", "l5 0", "l5 0 0", "l5 0 0 0 0", "l5 0 0 1", "l5 0 0 1 1 - - 0", "l5 0 0 1 1 - - 0 0 0",
                     "l5 0 0 2 1 - - 0 0", "l5 0 0 0 1 - - 0 0", "l5 0 0 " + "9" * 40, "l5 0 0 -", "l5 0 0 00", "0 0 0 0"):
            self.refused("lists\n" + line, 1)
            self.refused("lists\nl1 0 0 0\n" + line + "\nwrong", 2)

    def test_whole_spans(self):
        self.refused_word(self.LINES, 1, 4, (*NO_NUMBERS, "0"))
        for place in (5, 6, 10, 11):
            self.refused_word(self.LINES, 1, place, NO_WORTHS)
            self.read_word(self.LINES, 1, place, ("-", "0", ".", "-3"))
        for place in (7, 8, 12, 13):
            self.refused_word(self.LINES, 1, place, NO_NUMBERS)
            self.read_word(self.LINES, 1, place, ("0", "8"))
        text = "lists\nl1 9 0 12" + " 1 - - 0 0" * 12
        self.assertEqual(len(read_content(text)[1][0][3]), 12)


class HeadTexts(Texts):
    def test_first_line(self):
        self.refused_line(HEAD_LINES, 0, ("head", "head fruit", "head 6", "head fruit 6 6", "head fruit 1", "head fruit 0",
                                          "head Fruit 6", "head fruits", "head fruitss 6", "head - 6", "head .fruit 6"))
        self.refused_word(HEAD_LINES, 0, 2, (*NO_NUMBERS, "1"))

    def test_a_next_that_is_too_low_is_told_at_the_shape(self):
        for number, row in (("2", 1), ("3", 2)):
            self.refused("\n".join(["head fruit " + number, *HEAD_LINES[1:]]), row)
        self.read_word(HEAD_LINES, 0, 2, ("4", "5", "77"))

    def test_lines_stand_in_their_order(self):
        later = {"head": "head a 2", "shape": SMALL_LINES[1], "rule": "rule", "commit": "commit 1 put - 0 0 s1 0 0",
                 "tag": "tag b 0", "done": "done b 1 0"}
        begun = [*SMALL_LINES, "tag a 0", "done a 1 0"]
        behind = {"head": ("shape",), "shape": ("shape", "rule"), "rule": ("rule", "commit"),
                  "commit": ("commit", "tag", "done"), "tag": ("tag", "done"), "done": ("done",)}
        for many, (word, right) in enumerate(behind.items(), start=1):
            for other, line in later.items():
                lines = [*begun[:many], line]
                self.refused("\n".join([*lines, "wrong"]), many + 1 if other in right else many)

    def test_shape_lines(self):
        self.refused_line(HEAD_LINES, 1, ("shape", "shape 1", "shape 1 name sign", "shape 1 name sign .x 2", "shapes 1 a word -",
                                          "shape 1 name sign .x 1 many small 0", "shape 1 a sign .x 2 a small 0",
                                          "shape 0 name sign .x", "shape 1 name sign .", "shape 1 name small 100",
                                          "shape 6 name sign .x", "shape 1 name wide 0", "shape 1 Name sign .x"))
        self.refused_word(HEAD_LINES, 1, 1, (*NO_NUMBERS, "0", "6", "7"))
        self.refused_word(HEAD_LINES, 1, 2, ("", "A", "abcdefg", ".a", "-", "1", "many"))
        self.refused_word(HEAD_LINES, 1, 3, ("", "small", "whole", "Sign", "-", "1", "signs"))
        self.refused_word(HEAD_LINES, 1, 4, (*NO_WORTHS, "5", ".", ".xy"))
        columns = [f" {k} {'abcdefghi'[k - 1]} word -" for k in range(1, 10)]
        eight, nine = "shape" + "".join(columns[:8]), "shape" + "".join(columns)
        text = "\n".join(["head a 10", eight, *SMALL_LINES[2:]])
        self.assertEqual(show_content(read_content(text)), text)
        self.refused("\n".join(["head a 10", nine, *SMALL_LINES[2:]]), 1)

    def test_shapes_gainsaid_by_later_ones(self):
        self.refused_word(HEAD_LINES, 2, 4, ("-", ".y", ".xx"))
        self.refused_word(HEAD_LINES, 2, 7, ("sign", "word"))
        self.refused_word(HEAD_LINES, 3, 3, ("small",))
        self.refused_word(HEAD_LINES, 3, 7, ("sign",))
        self.refused_word(HEAD_LINES, 3, 8, (".y",))
        line = "shape 1 title word .x 2 many small 0"
        self.refused("\n".join([*HEAD_LINES[:4], line, *HEAD_LINES[4:]]), 4)
        self.refused("\n".join([*HEAD_LINES[:4], HEAD_LINES[3], line, "wrong"]), 5)

    def test_rule_lines(self):
        self.refused_line(HEAD_LINES, 4, ("rule ", "rule 1", "rule 1 same", "rule 1 same 0 2", "rules", "rule same 0 1",
                                          "rule 1 same 1", "rule 1 same -", "rule 1 range 0", "rule 1 range 1001",
                                          "rule 1 rest 0", "rule 1 rest 101", "rule 1 first 0", "rule 1 first 9",
                                          "rule 0 same 0", "rule 1 same 0 1 same 0", "rule 1 last 1", "rule 1 same 00",
                                          "rule 1 same 0 2 same 0 3 same 0 4 same 0", "rule - same 0", "rule 1 Same 0"))
        self.refused_word(HEAD_LINES, 5, 1, (*NO_NUMBERS, "0", "3", "2"))
        self.refused_word(HEAD_LINES, 5, 9, (*NO_NUMBERS, "0", "1001"))
        self.read_word(HEAD_LINES, 5, 9, ("1", "1000", "5"))
        self.read_word(HEAD_LINES, 5, 6, ("1", "8"))

    def test_commit_lines(self):
        self.refused_line(HEAD_LINES, 7, ("commit", "commit 2 make - 0 0 s1 0", "commit 2 make - 0 0 s1 0 0 0",
                                          "commits 2 make - 0 0 s1 0 0", "commit make 2 - 0 0 s1 0 0"))
        self.refused_word(HEAD_LINES, 7, 1, NO_NUMBERS)
        self.refused_word(HEAD_LINES, 8, 1, (*NO_NUMBERS, "0", "1", "2"))
        self.refused_word(HEAD_LINES, 8, 2, ("", "tag", "let", "-", "puts", "1", ".put"))
        self.refused_word(HEAD_LINES, 8, 3, ("", ".", ".ann", "--", "A", "abcdefg", "1", "0"))
        self.read_word(HEAD_LINES, 8, 3, ("-", "zz", "commit"))
        for place in (4, 5, 7, 8):
            self.refused_word(HEAD_LINES, 8, place, NO_NUMBERS)
        self.refused_word(HEAD_LINES, 8, 6, no_files("s"))
        for place in (7, 8):
            self.refused_word(HEAD_LINES, 8, place, ("3", "4", "100"))
            self.read_word(HEAD_LINES, 8, place, ("0", "1", "2"))

    def test_commits_gainsaid_by_later_ones(self):
        self.refused("\n".join([*HEAD_LINES[:7], HEAD_LINES[7].replace("0", "6", 2), *HEAD_LINES[8:]]), 8)
        lines = [*SMALL_LINES, "commit 5 put - 0 7 s1 0 0"]
        for line in ("commit 5 put - 0 7 s1 0 0", "commit 4 put - 0 7 s1 0 0", "commit 6 put - 0 6 s1 0 0"):
            self.refused("\n".join([*lines, line, "wrong"]), 5)
        text = "\n".join([*lines, "commit 6 put - 0 7 s1 0 0"])
        self.assertEqual(show_content(read_content(text)), text)

    def test_tag_lines(self):
        self.refused_line(HEAD_LINES, 10, ("tag", "tag new", "tag new 7 7", "tags new 7", "tag 7 new", "tag - 7", "tag New 7"))
        self.refused_word(HEAD_LINES, 10, 2, (*NO_NUMBERS, "0", "1", "4", "8"))
        self.read_word(HEAD_LINES, 10, 2, ("2", "3", "7"))
        self.refused_word(HEAD_LINES, 11, 1, ("new", "a", "", "new ", "n"))
        self.refused_word(HEAD_LINES, 12, 1, ("old", "olc", "new"))

    def test_done_lines(self):
        self.refused_line(HEAD_LINES, 13, ("done", "done ann", "done ann 1", "done ann 1 3 3", "done 1 ann 3", "done - 1 3"))
        for place in (2, 3):
            self.refused_word(HEAD_LINES, 13, place, NO_NUMBERS)
            self.read_word(HEAD_LINES, 13, place, ("0", "1", "500"))
        self.refused_word(HEAD_LINES, 14, 1, ("ann", "aa", "", "an"))

    def test_no_commit(self):
        for many in (1, 2, 3):
            self.refused("\n".join(SMALL_LINES[:many]), many)
        self.refused("\n".join([*SMALL_LINES[:3], "tag a 0"]), 3)
        self.refused("\n".join([*SMALL_LINES[:3], "done a 0 0"]), 3)


if __name__ == "__main__":
    unittest.main()
