"""The words of a line, each of which is judged when it is reached."""

from drawnanew.errors import BadLine
from drawnanew.forms import MANY_PARTS, is_name

DIGITS = ("0", "1", "2", "3", "4", "5", "6", "7", "8", "9")
FORM_WORDS = ("is", "get", "sum", "same", "pick")


def is_number(word, most):
    """Whether the word is a number of at most so many digits, without a zero ahead of another digit."""
    if not 1 <= len(word) <= most or not all([sign in DIGITS for sign in word]):
        return False
    return len(word) == 1 or word[0] != "0"


class Words:
    """The words of the line with this number, read one by one; the first wrong one is refused."""

    def __init__(self, number, line):
        self.number = number
        self._words = line.split(" ")
        self._at = 0

    def more(self):
        """Whether there is a further word."""
        return self._at < len(self._words)

    def read(self, is_right):
        """Read the next word, which must be right."""
        if not self.more() or not is_right(self._words[self._at]):
            raise BadLine(self.number, self._at + 1)
        self._at += 1
        return self._words[self._at - 1]

    def read_one(self, told):
        """Read the next word, which must be one of these."""
        return self.read(lambda word: word in told)

    def read_name(self):
        """Read a name, or a word, which has the same form."""
        return self.read(is_name)

    def read_digit(self):
        """Read a number of one digit."""
        return int(self.read_one(DIGITS))

    def read_form(self):
        """Read a written form."""
        word = self.read_one(FORM_WORDS)
        if word == "is":
            return (word, self.read_digit())
        if word == "get":
            return (word, self.read_name())
        return (word,) + tuple([self.read_form() for _ in range(MANY_PARTS[word])])

    def finish(self):
        """Refuse a further word."""
        if self.more():
            raise BadLine(self.number, self._at + 1)
