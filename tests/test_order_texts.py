"""Orders as texts, there and back."""

from rockbeds.errors import ParseError
from rockbeds.texts import order_text, read_order
from tests.case import Case, any_values
from tests.cells import Numbers
from tests.samples import A, B, R, X, some_sample


class TextTest(Case):

    def test_there_and_back(self):
        for order, text in [([], ""), ([A], "+a"), ([X], "~x"), ([R], "#r"), ([R, A, X, B], "#r +a ~x +b"),
                            ([("lay", "clay"), ("cut", "clay"), ("dike", "clay")], "+clay ~clay #clay"),
                            ([("dike", "abcdefgh"), ("lay", "lay")], "#abcdefgh +lay")]:
            self.same(order_text(order), text)
            self.same(order_text(order=tuple(order)), text)
            self.same(read_order(text), order)
            self.same(read_order(text=text), order)

    def test_items_that_occur_more_than_once(self):
        self.same(order_text([A, A, X, A]), "+a +a ~x +a")

    def test_any_order(self):
        numbers = Numbers(521)
        for _ in range(50):
            order = some_sample(numbers, 4, 20).order
            self.same(read_order(order_text(order)), order)

    def test_results_are_new(self):
        order = [A]
        read_order("+a").clear()
        self.same(read_order("+a"), [A])
        order_text(order)
        self.same(order, [A])


class ParseTest(Case):

    def parse_error(self, word, text):
        with self.subTest(text=text):
            self.refused(ParseError(0, word), read_order, text)

    def test_empty_words(self):
        self.parse_error(0, " ")
        self.parse_error(0, " +a")
        self.parse_error(1, "+a ")
        self.parse_error(1, "+a  ~x")
        self.parse_error(0, "  ")

    def test_newlines(self):
        self.parse_error(0, "\n")
        self.parse_error(0, "+a\n")
        self.parse_error(0, "+a\n~x")
        self.parse_error(0, "\n+a")
        self.parse_error(1, "+a ~x\n+b #r")
        self.parse_error(1, "+a \n")

    def test_an_item_that_occurs_before(self):
        self.parse_error(1, "+a +a")
        self.parse_error(3, "+a ~a #a ~a +a")
        self.parse_error(2, "+a ~x +a +a")
        self.parse_error(1, "+a +a x")

    def test_wrong_words_at_each_place(self):
        words = "#r +a ~x +b".split(" ")
        wrong = ["a", "+", "~", "#", "-a", "++a", "+a+", "a+", "+A", "+abcdefghi", "+a1", "+1", "%a"[1:], ":a", "+a:1",
                 "lay", "+a~x", "~+a", "1", "@a", "&a", ",a", "*a", "+-a", "+a,", "'a", "+\ta", "$a", "!a", "\"a", "}a"]
        for at in range(4):
            for word in wrong:
                self.parse_error(at, " ".join(words[:at] + [word] + words[at + 1:]))
                self.parse_error(at, " ".join(words[:at] + [word]))

    def test_any_value(self):
        for value in any_values() + [[A], b"+a", A]:
            if not isinstance(value, str):
                self.refused(ParseError(0, 0), read_order, value)
        for value in ["clay", "Clay", "1", "cl ay"]:
            self.parse_error(0, value)
