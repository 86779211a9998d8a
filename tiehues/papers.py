"""What fewest and turned_hues tell, as words."""

from tiehues.errors import NoForm, NoText
from tiehues.nets import is_whole
from tiehues.texts import is_number

# The least number of more than thirty figures.
TOO_GREAT = 10 ** 30
MOST_BRACKETS = 40


def look_form(right):
    if not right:
        raise NoForm("no tuple of the form that fewest or turned_hues tell")


def number_word(number):
    look_form(is_whole(number) and 0 <= number < TOO_GREAT)
    return str(number)


def list_words(numbers):
    look_form(isinstance(numbers, list))
    return [number_word(number) for number in numbers]


def case_words(case, room):
    """The words of a case, with at most so many brackets in one another."""
    if case == ():
        return ["."]
    look_form(isinstance(case, tuple) and len(case) == 2 and isinstance(case[1], list) and room > 0)
    words = ["(", number_word(case[0])]
    for child in case[1]:
        words.extend(case_words(child, room - 1))
    return words + [")"]


def turn_words(paper, room):
    """The words of a turn paper, with at most so many brackets in one another."""
    look_form(isinstance(paper, tuple) and len(paper) == 3)
    first, one, other = paper
    if first == "ties":
        return ["=", number_word(one), number_word(other)]
    look_form(room > 0)
    return ["(", number_word(first)] + turn_words(one, room - 1) + turn_words(other, room - 1) + [")"]


def paper_words(paper):
    """The words of a paper: its own name, then what stands behind it."""
    look_form(isinstance(paper, tuple) and len(paper) > 0)
    word, *told = paper
    shape = (word, len(told))
    if shape == ("none", 0):
        return ["none"]
    if shape == ("tie", 1):
        return ["tie", number_word(told[0])]
    if shape == ("lot", 2):
        return ["lot", number_word(told[0])] + list_words(told[1])
    if shape == ("turn", 1):
        return ["turn"] + turn_words(told[0], MOST_BRACKETS)
    look_form(shape == ("case", 1))
    return ["case"] + case_words(told[0], MOST_BRACKETS)


def told_words(told):
    """The words of what fewest or turned_hues tell."""
    look_form(isinstance(told, tuple) and 3 <= len(told) <= 4)
    h, *turnings, hues, paper = told
    words = [number_word(h)]
    for turning in turnings:
        words += ["turn"] + list_words(turning)
    words += ["hues"] + list_words(hues)
    return " ".join(words + ["by"] + paper_words(paper))


class Reader:
    """Reads words one by one; what they are no beginning of is refused."""

    def __init__(self, words):
        self.words = words
        self.done = 0

    def ahead(self):
        """The next word, one without signs where there is none."""
        return self.words[self.done] if self.done < len(self.words) else ""

    def take(self):
        word = self.ahead()
        self.done += 1
        return word

    def need(self, wanted):
        if self.take() != wanted:
            raise NoText(0)

    def need_number(self):
        word = self.take()
        if not is_number(word):
            raise NoText(0)
        return int(word)

    def take_numbers(self):
        """All numbers up to the next word that is none."""
        numbers = []
        while is_number(self.ahead()):
            numbers.append(self.need_number())
        return numbers

    def need_open(self, room):
        self.need("(")
        if room <= 0:
            raise NoText(0)

    def need_case(self, room):
        """A case, with at most so many brackets in one another."""
        if self.ahead() == ".":
            self.take()
            return ()
        self.need_open(room)
        k = self.need_number()
        children = []
        while self.ahead() in ("(", "."):
            children.append(self.need_case(room - 1))
        self.need(")")
        return (k, children)

    def need_turn(self, room):
        """A turn paper, with at most so many brackets in one another."""
        if self.ahead() == "=":
            self.take()
            e = self.need_number()
            return ("ties", e, self.need_number())
        self.need_open(room)
        k = self.need_number()
        one = self.need_turn(room - 1)
        other = self.need_turn(room - 1)
        self.need(")")
        return (k, one, other)

    def need_paper(self):
        word = self.take()
        if word == "none":
            return ("none",)
        if word == "tie":
            return ("tie", self.need_number())
        if word == "lot":
            place = self.need_number()
            return ("lot", place, self.take_numbers())
        if word == "turn":
            return ("turn", self.need_turn(MOST_BRACKETS))
        if word == "case":
            return ("case", self.need_case(MOST_BRACKETS))
        raise NoText(0)

    def need_told(self):
        h = self.need_number()
        turnings = []
        if self.ahead() == "turn":
            self.take()
            turnings.append(self.take_numbers())
        self.need("hues")
        hues = self.take_numbers()
        self.need("by")
        return (h, *turnings, hues, self.need_paper())

    def need_end(self):
        if self.done < len(self.words):
            raise NoText(0)


def told_of(text):
    """The tuple of which a text is the words."""
    reader = Reader(text.split(" "))
    told = reader.need_told()
    reader.need_end()
    return told
