import unittest

from downhillnet.books import Book, book_text
from downhillnet.errors import BadBook
from tests.tools import TEXT, Case, any_values

HEAD = "net 4 0 1\ngoal home"
LEAST = HEAD + "\nstation a 2 3"
BAD_NUMBERS = [
    "+1", "-1", "-0", "01", "00", "0000000001", "1.0", "1e1", "1_0", "0x1", "x", "one", "", "1\t", "\t1", "True",
]
BAD_NAMES = ["", "ninechars", "A", "aB", "a1", "1", "a_b", "a-b", "a.", "a\tb", "-"]


def letters(number):
    """A name of its own for each number."""
    return "abcdefghijklmnopqrstuvwxyz"[number // 26] + "abcdefghijklmnopqrstuvwxyz"[number % 26]


def stations(many):
    return [f"station {letters(number)} 0 0" for number in range(many)]


def links(many):
    """So many links between nine stations."""
    pairs = [(one, other) for one in range(9) for other in range(9) if one != other]
    return [f"link {letters(one)} {letters(other)} 1 0" for one, other in pairs[:many]]


class Read(Case):

    def test_all_properties(self):
        book = Book(TEXT)
        self.same(book.text, TEXT)
        self.same((book.window, book.margin, book.late, book.goal), (4, 0, 1, "home"))
        self.same(book.stations, (("a", 2, 3), ("b", 1, 0)))
        self.same(book.links, (("a", "b", 2, 2), ("b", "home", 1, 3), ("b", "a", 1, 0)))
        self.same(len(book), 2)

    def test_properties_are_set_on_the_object(self):
        names = {"text", "window", "margin", "late", "goal", "stations", "links"}
        self.assertLessEqual(names, set(vars(Book(TEXT))))

    def test_a_book_without_links(self):
        book = Book(LEAST)
        self.same((book.stations, book.links, len(book)), ((("a", 2, 3),), (), 1))

    def test_texts_are_told_again(self):
        texts = [TEXT, LEAST, "net 40 10000000 20\ngoal abcdefgh\nstation z 300000000 1000000\nlink z abcdefgh 1000 40"]
        texts.append("\n".join(["net 1 0 0", "goal g", *stations(20), *links(60)]))
        for text in texts:
            with self.subTest(text):
                book = Book(text)
                parts = (book.window, book.margin, book.late, book.goal, book.stations, book.links)
                self.same(book_text(*parts), text)
                self.assertEqual(Book(book_text(*parts)), book)

    def test_two_links_may_have_one_end_alike_or_both_the_other_way(self):
        text = HEAD + "\nstation a 0 0\nstation b 0 0\nlink a b 1 0\nlink b a 1 0\nlink a home 1 0\nlink b home 1 0"
        self.assertEqual(len(Book(text).links), 4)

    def test_equal_if_the_texts_are(self):
        book = Book(TEXT)
        self.assertTrue(book == Book(TEXT))
        self.assertFalse(book != Book(TEXT))
        self.assertFalse(book == Book(LEAST))
        self.assertTrue(book != Book(LEAST))

    def test_equal_to_nothing_else(self):
        book = Book(TEXT)
        for value in [TEXT, *any_values()]:
            if value.__class__ is not Book:
                with self.subTest(value=value):
                    self.assertIs(book == value, False)
                    self.assertIs(value == book, False)
                    self.assertIs(book != value, True)

    def test_same_stations_and_links_in_another_order_are_another_book(self):
        one = HEAD + "\nstation a 0 0\nstation b 0 0"
        other = HEAD + "\nstation b 0 0\nstation a 0 0"
        self.assertFalse(Book(one) == Book(other))


class Refused(Case):

    def bad(self, text, number):
        with self.subTest(text[-300:]):
            self.refused(BadBook, number, Book, text)

    def good(self, text):
        with self.subTest(text[-300:]):
            self.assertEqual(Book(text).text, text)

    def each_word_wrong(self, ahead, line, wrong, behind=""):
        """The last line of what is ahead, with a wrong word in each place of it, one less and one more."""
        number = ahead.count("\n") + 1
        words = line.split(" ")
        for place in range(len(words)):
            for word in wrong[place]:
                self.bad(ahead + " ".join([*words[:place], word, *words[place + 1:]]) + behind, number)
            self.bad(ahead + " ".join(words[:place] + words[place + 1:]) + behind, number)
        self.bad(ahead + line + " 1" + behind, number)
        self.bad(ahead + line + " a" + behind, number)
        for text in (" " + line, line + " ", line.replace(" ", "  ", 1), line.replace(" ", "\t", 1), line.upper()):
            self.bad(ahead + text + behind, number)

    def test_what_is_no_string(self):
        for value in [*any_values(), 0, 1, [TEXT], (TEXT,), tuple(TEXT.split("\n"))]:
            if not isinstance(value, str):
                with self.subTest(value=value):
                    self.refused(BadBook, 0, Book, value)

    def test_head(self):
        window = ["0", "41", "-4", *BAD_NUMBERS]
        margin = ["10000001", *BAD_NUMBERS]
        late = ["21", *BAD_NUMBERS]
        behind = "\ngoal home\nstation a 2 3"
        self.each_word_wrong("", "net 4 0 1", [["nets", "Net", "", "goal", "book"], window, margin, late], behind)
        for line in ("net 1 0 0", "net 40 10000000 20"):
            self.good(line + behind)

    def test_goal(self):
        wrong = [["goals", "Goal", "", "net", "station"], BAD_NAMES]
        self.each_word_wrong("net 4 0 1\n", "goal home", wrong, "\nstation a 2 3")
        for name in ("a", "z", "abcdefgh", "goal", "net"):
            self.good(f"net 4 0 1\ngoal {name}\nstation b 2 3")

    def test_station(self):
        name = ["home", *BAD_NAMES]
        level = ["300000001", "1000000000", *BAD_NUMBERS]
        put = ["1000001", *BAD_NUMBERS]
        wrong = [["stations", "Station", "", "net", "goal", "link"], name, level, put]
        self.each_word_wrong(HEAD + "\n", "station a 2 3", wrong)
        wrong = [["stations", "Station", "", "net", "goal", "link"], ["a", *name], level, put]
        self.each_word_wrong(HEAD + "\nstation a 2 3\n", "station b 2 3", wrong)
        for line in ("station a 0 0", "station abcdefgh 300000000 1000000", "station station 1 1"):
            self.good(HEAD + "\n" + line)

    def test_link(self):
        ahead = HEAD + "\nstation a 2 3\nstation b 2 3\n"
        words = ["links", "Link", "", "net", "goal"]
        room = ["0", "1001", *BAD_NUMBERS]
        times = ["5", "40", *BAD_NUMBERS]
        wrong = [words, ["b", "c", "home", *BAD_NAMES], ["a", "c", *BAD_NAMES], room, times]
        self.each_word_wrong(ahead, "link a b 1 4", wrong)
        wrong = [words, ["c", "home", *BAD_NAMES], ["a", "c", *BAD_NAMES], room, times]
        self.each_word_wrong(ahead + "link b home 1 1\n", "link a home 1 4", wrong)
        for line in ("link a b 1 0", "link a home 1000 4", "link b a 1 4"):
            self.good(ahead + line)

    def test_open_up_to_the_window_of_this_book(self):
        for window in (1, 2, 39, 40):
            ahead = f"net {window} 0 0\ngoal home\nstation a 0 0\nlink a home 1 "
            self.good(ahead + str(window))
            self.bad(ahead + str(window + 1), 4)

    def test_a_link_twice(self):
        ahead = HEAD + "\nstation a 2 3\nstation b 2 3\nlink a b 1 1\nlink a home 1 1\n"
        self.bad(ahead + "link a b 1 1", 7)
        self.bad(ahead + "link a b 2 3", 7)
        self.bad(ahead + "link a home 3 2", 7)

    def test_names_twice(self):
        self.bad(HEAD + "\nstation a 0 0\nstation a 1 1", 4)
        self.bad(HEAD + "\nstation a 0 0\nstation b 0 0\nstation a 1 1\nstation c 0 0", 5)
        self.bad(HEAD + "\nstation a 0 0\nstation home 1 1", 4)

    def test_links_ahead_of_their_stations(self):
        self.bad(HEAD + "\nlink a home 1 1\nstation a 0 0", 3)
        self.bad(HEAD + "\nstation a 0 0\nlink a b 1 1\nstation b 0 0", 4)

    def test_stations_behind_links(self):
        self.bad(LEAST + "\nlink a home 1 1\nstation b 0 0", 5)
        self.bad(LEAST + "\nlink a home 1 1\nstation a 0 0", 5)

    def test_how_many_stations(self):
        self.good("\n".join([HEAD, *stations(20)]))
        self.bad("\n".join([HEAD, *stations(21)]), 23)
        self.bad("\n".join([HEAD, *stations(22), "x"]), 23)
        self.assertEqual(len(Book("\n".join([HEAD, *stations(20)]))), 20)

    def test_how_many_links(self):
        self.good("\n".join([HEAD, *stations(9), *links(60)]))
        self.bad("\n".join([HEAD, *stations(9), *links(61)]), 72)
        self.bad("\n".join([HEAD, *stations(20), *links(61)]), 83)
        self.assertEqual(len(Book("\n".join([HEAD, *stations(9), *links(60)])).links), 60)

    def test_empty_lines(self):
        self.bad("", 1)
        self.bad("\n", 1)
        self.bad("\n" + LEAST, 1)
        self.bad("net 4 0 1\n", 2)
        self.bad("net 4 0 1\n\ngoal home", 2)
        self.bad(HEAD + "\n", 3)
        self.bad(LEAST + "\n", 4)
        self.bad(TEXT + "\n", 8)
        self.bad(TEXT + "\n\n", 8)
        self.bad(TEXT.replace("\nlink a", "\n\nlink a"), 5)

    def test_lines_that_lack(self):
        self.bad("net 4 0 1", 2)
        self.bad(HEAD, 3)

    def test_lines_in_another_place(self):
        self.bad("goal home\nnet 4 0 1\nstation a 2 3", 1)
        self.bad("net 4 0 1\nstation a 2 3\ngoal home", 2)
        self.bad(LEAST + "\nnet 4 0 1", 4)
        self.bad(LEAST + "\ngoal home", 4)
        self.bad(TEXT + "\ngoal home", 8)

    def test_the_first_of_several_wrong_lines(self):
        self.bad("net 0 0 1\ngoal X\nstation a 2", 1)
        self.bad("net 4 0 1\ngoal X\nstation a 2", 2)
        self.bad("net 4 0 1\ngoal home\nstation a 2\nlink", 3)
        self.bad(LEAST + "\nlink a x 1 1\nlink a home 0 1", 4)
        self.bad(LEAST + "\nstation b 0 1000001\nlink a b 1 1", 4)

    def test_lines_parted_by_other_signs(self):
        self.bad(LEAST.replace("\n", " "), 1)
        self.bad(LEAST.replace("\n", "\t"), 1)
        self.bad(LEAST.replace("\n", "\n\n"), 2)


if __name__ == "__main__":
    unittest.main()
