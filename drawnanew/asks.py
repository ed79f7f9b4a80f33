"""Questions to afar: the line of those that are open, and the fences that let late answers in."""

from drawnanew.components import FENCES
from drawnanew.errors import BadFence, NoAnswer
from drawnanew.forms import is_whole


class Entry:
    """A question that was sent, with the answer that it keeps."""

    def __init__(self, owner, word, who, ticket, question, answer):
        self.owner = owner
        self.word = word
        self.who = who
        self.ticket = ticket
        self.question = question
        self.answer = answer


class Line:
    """The open questions, the eldest first, and the edition of the far store."""

    def __init__(self, far, room):
        self._far = tuple(far)
        self._room = room
        self._edition = 0
        self._tickets = 0
        self._entries = []

    @property
    def edition(self):
        """The number of the present edition."""
        return self._edition

    def send(self, owner, word, who, question):
        """Send a question and return its entry; the eldest one leaves if there is no room for it."""
        entry = Entry(owner, word, who, self._tickets, question, self._far[self._edition][question])
        self._tickets += 1
        self._entries.append(entry)
        if len(self._entries) > self._room:
            del self._entries[0]
        return entry

    def take(self, number):
        """Remove the open question with this number and return its entry."""
        if not is_whole(number) or not 0 <= number < len(self._entries):
            raise NoAnswer(number)
        return self._entries.pop(number)

    def entries(self):
        """The entries of the open questions, the eldest first."""
        return list(self._entries)

    def turn(self):
        """Go on to the next edition; whether there was one."""
        if not self.has_next():
            return False
        self._edition += 1
        return True

    def has_next(self):
        """Whether there is a next edition."""
        return self._edition + 1 < len(self._far)

    def copy(self):
        """A new line with the same entries."""
        twin = Line(self._far, self._room)
        twin._edition = self._edition
        twin._tickets = self._tickets
        twin._entries = list(self._entries)
        return twin


def _reads_no_less(first, second):
    """Whether the first fence asks for all that the second one asks for, so that it lets in no more."""
    return all([word in first.READS for word in second.READS])


class Fence:
    """Lets every entry in."""

    # In what an entry must be the same as the state of the ask; what more is asked for, less is let in.
    READS = ()

    def lets(self, entry, who, question, ticket):
        """Whether the entry is let in."""
        return True

    def __le__(self, other):
        if not isinstance(other, Fence):
            return NotImplemented
        return _reads_no_less(self, other)


class Own(Fence):
    """Lets in what the same instance sent."""

    READS = ("who",)

    def lets(self, entry, who, question, ticket):
        """Whether the entry is let in."""
        return entry.who == who

    def __le__(self, other):
        if not isinstance(other, Fence):
            return NotImplemented
        return _reads_no_less(self, other)


class Same(Fence):
    """Lets in the answer to the same question."""

    READS = ("question",)

    def lets(self, entry, who, question, ticket):
        """Whether the entry is let in."""
        return entry.question == question

    def __le__(self, other):
        if not isinstance(other, Fence):
            return NotImplemented
        return _reads_no_less(self, other)


class Both(Own, Same):
    """Lets in what both own and same let in."""

    READS = ("who", "question")

    def lets(self, entry, who, question, ticket):
        """Whether the entry is let in."""
        return entry.who == who and entry.question == question

    def __le__(self, other):
        if not isinstance(other, Fence):
            return NotImplemented
        return _reads_no_less(self, other)


class Last(Fence):
    """Lets in the answer to what the same instance asked last."""

    READS = ("who", "question", "ticket")

    def lets(self, entry, who, question, ticket):
        """Whether the entry is let in."""
        return entry.who == who and entry.question == question and entry.ticket == ticket

    def __le__(self, other):
        if not isinstance(other, Fence):
            return NotImplemented
        return _reads_no_less(self, other)


def fence_of(word):
    """A new fence of the class of this word."""
    if word not in FENCES:
        raise BadFence(word)
    if word == "own":
        return Own()
    if word == "same":
        return Same()
    if word == "both":
        return Both()
    return Last() if word == "last" else Fence()


class Asker:
    """One ask of an instance at a fixed path, on a line of its own."""

    def __init__(self, fence, line, who):
        self._fence = fence
        self._line = line
        self._who = who
        self._sent = None
        self._shows = 0

    def ask(self, question):
        """Send the question; no answer is shown now."""
        self._sent = self._line.send((), "", self._who, question)
        self._shows = 0

    def steps(self, questions):
        """The steps that can come next, in order."""
        rows = [("ask", question) for question in questions if question != self._sent.question]
        rows.extend([("land", number) for number in range(len(self._line.entries()))])
        if self._line.has_next():
            rows.append(("far",))
        return rows + [("again", question) for question in questions]

    def behind(self, step):
        """The asker behind a step; this one stays as it is."""
        twin = Asker(self._fence, self._line.copy(), self._who)
        twin._sent = self._sent
        twin._shows = self._shows
        word = step[0]
        if word == "far":
            twin._line.turn()
        elif word == "land":
            twin._land(step[1])
        else:
            if word == "again":
                twin._who += 1
            twin.ask(step[1])
        return twin

    def _land(self, number):
        """Let the answer come, if the fence lets it in."""
        entry = self._line.take(number)
        if self._fence.lets(entry, self._who, self._sent.question, self._sent.ticket):
            self._shows = entry.answer

    def is_late(self):
        """Whether it shows another answer than the one with which its last question was sent."""
        return self._shows not in (0, self._sent.answer)

    def _matter(self, entry):
        """What can still matter of an open question: None if the fence never lets it in from now on."""
        reads = self._fence.READS
        if "who" in reads and entry.who != self._who:
            return None
        if "ticket" in reads and entry.ticket != self._sent.ticket:
            return None
        return (entry.question if "question" in reads else 0, entry.answer)

    def stand(self):
        """A tuple that is equal for two askers only if the same steps make both late."""
        told = tuple([self._matter(entry) for entry in self._line.entries()])
        return (self._line.edition, self._sent.question, self._sent.answer, self._shows, told)


def late_row(word, far, room, questions):
    """The first shortest row of steps behind which an asker with this fence is late, or None."""
    asker = Asker(fence_of(word), Line(far, room), 0)
    asker.ask(questions[0])
    waiting = [(asker, [])]
    known = {asker.stand(): True}
    at = 0
    while at < len(waiting):
        asker, row = waiting[at]
        at += 1
        for step in asker.steps(questions):
            other = asker.behind(step)
            if other.is_late():
                return row + [step]
            stand = other.stand()
            if stand not in known:
                known[stand] = True
                waiting.append((other, row + [step]))
    return None


def _is_beneath(word, words):
    """Whether the fence of the word is at most another one of these."""
    return any([fence_of(word) <= fence_of(other) for other in words if other != word])


def weakest(far, room, questions):
    """The words of the fences under which no asker is late, without those that are at most another such one."""
    good = [word for word in FENCES if late_row(word, far, room, questions) is None]
    return tuple([word for word in good if not _is_beneath(word, good)])
