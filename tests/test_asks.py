import unittest

from drawnanew.asks import Both, Entry, Fence, Last, Line, Own, Same, fence_of, late_row, weakest
from drawnanew.errors import BadFence, NoAnswer

FAR = ((1, 2, 3, 1), (2, 2, 1, 1), (3, 2, 1, 2))
WORDS = ("any", "own", "same", "both", "last")


def rows(line):
    return [(entry.owner, entry.word, entry.who, entry.ticket, entry.question, entry.answer) for entry in line.entries()]


class Lines(unittest.TestCase):
    def test_entries_have_their_fields(self):
        entry = Entry(((2,),), "ask", 4, 7, 3, 1)
        self.assertEqual((entry.owner, entry.word, entry.who, entry.ticket, entry.question, entry.answer), (
            ((2,),), "ask", 4, 7, 3, 1))

    def test_tickets_answers_and_order(self):
        line = Line(FAR, 3)
        self.assertEqual((line.entries(), line.edition), ([], 0))
        entry = line.send((), "a", 5, 2)
        self.assertEqual((entry.owner, entry.word, entry.who, entry.ticket, entry.question, entry.answer), (
            (), "a", 5, 0, 2, 3))
        line.send(((1,),), "b", 6, 0)
        self.assertEqual(rows(line), [((), "a", 5, 0, 2, 3), (((1,),), "b", 6, 1, 0, 1)])

    def test_the_eldest_leaves_when_there_is_no_room(self):
        for room in (1, 2, 3):
            line = Line(FAR, room)
            for question in (0, 1, 2, 3, 0):
                line.send((), "a", 0, question)
            self.assertEqual([entry.ticket for entry in line.entries()], list(range(5))[-room:])

    def test_taking(self):
        line = Line(FAR, 3)
        for question in (0, 1, 2):
            line.send((), "a", 0, question)
        self.assertEqual((line.take(1).ticket, [entry.ticket for entry in line.entries()]), (1, [0, 2]))
        self.assertEqual((line.take(1).ticket, line.take(0).ticket), (2, 0))
        self.assertEqual(line.entries(), [])
        self.assertEqual(line.send((), "a", 0, 3).ticket, 3)

    def test_no_answer(self):
        line = Line(FAR, 2)
        line.send((), "a", 0, 0)
        line.send((), "a", 0, 1)
        for number in (2, -1, True, False, None, "0", 10 ** 40):
            with self.subTest(number=number), self.assertRaises(NoAnswer) as caught:
                line.take(number)
            self.assertIs(caught.exception.number, number)
        self.assertEqual([entry.ticket for entry in line.entries()], [0, 1])
        with self.assertRaises(NoAnswer):
            Line(FAR, 2).take(0)

    def test_answers_are_kept_from_their_edition(self):
        line = Line(FAR, 3)
        line.send((), "a", 0, 0)
        self.assertIs(line.turn(), True)
        line.send((), "a", 0, 0)
        self.assertIs(line.turn(), True)
        line.send((), "a", 0, 0)
        self.assertEqual(line.edition, 2)
        self.assertIs(line.turn(), False)
        self.assertEqual(line.edition, 2)
        self.assertEqual([entry.answer for entry in line.entries()], [1, 2, 3])
        self.assertIs(Line(FAR[:1], 1).turn(), False)

    def test_copy(self):
        line = Line(FAR, 2)
        line.send((), "a", 0, 0)
        line.turn()
        twin = line.copy()
        self.assertEqual((rows(twin), twin.edition), (rows(line), 1))
        twin.send((), "a", 0, 1)
        twin.turn()
        self.assertEqual((len(line.entries()), line.edition), (1, 1))
        line.take(0)
        self.assertEqual((len(twin.entries()), twin.edition), (2, 2))
        self.assertEqual(line.send((), "a", 0, 1).ticket, 1)
        self.assertEqual(len(line.copy().entries()), 1)
        for _ in range(3):
            twin.send((), "a", 0, 1)
        self.assertEqual([entry.ticket for entry in twin.entries()], [3, 4])

    def test_entries_belong_to_the_caller(self):
        line = Line(FAR, 2)
        line.send((), "a", 0, 0)
        line.entries().clear()
        self.assertEqual(len(line.entries()), 1)


# For each fence, whether it lets in an entry of who 1, question 2 and ticket 3, by what is the same in the state.
STATES = [(who, question, ticket) for who in (1, 9) for question in (2, 9) for ticket in (3, 9)]
LETS = {
    "any": lambda who, question, ticket: True,
    "own": lambda who, question, ticket: who == 1,
    "same": lambda who, question, ticket: question == 2,
    "both": lambda who, question, ticket: who == 1 and question == 2,
    "last": lambda who, question, ticket: (who, question, ticket) == (1, 2, 3),
}


class Fences(unittest.TestCase):
    def test_what_each_lets_in(self):
        entry = Entry((), "a", 1, 3, 2, 1)
        for word in WORDS:
            for state in STATES:
                with self.subTest(word=word, state=state):
                    self.assertIs(fence_of(word).lets(entry, *state), LETS[word](*state))

    def test_classes(self):
        for word, told in zip(WORDS, (Fence, Own, Same, Both, Last)):
            self.assertIs(type(fence_of(word)), told)
            self.assertIsInstance(told(), Fence)
        self.assertEqual(Both.__bases__, (Own, Same))
        self.assertIsNot(fence_of("own"), fence_of("own"))

    def test_at_most_for_all_pairs(self):
        for first in WORDS:
            for second in WORDS:
                told = all([LETS[second](*state) for state in STATES if LETS[first](*state)])
                with self.subTest(first=first, second=second):
                    self.assertIs(fence_of(first) <= fence_of(second), told)
            for other in (1, None, first):
                with self.assertRaises(TypeError):
                    fence_of(first) <= other

    def test_bad_fence(self):
        for word in ("", "Any", "most", None, 0, [], ("any",), Fence()):
            with self.subTest(word=word), self.assertRaises(BadFence) as caught:
                fence_of(word)
            self.assertIs(caught.exception.fence, word)
        with self.assertRaises(BadFence) as caught:
            late_row("none", FAR, 1, [0])
        self.assertEqual(caught.exception.fence, "none")


class SlowAsker:
    """An asker as the document tells it, with rows of steps and nothing left out."""

    def __init__(self, word, far, room, first):
        self.lets, self.far, self.room = LETS[word], far, room
        self.who, self.ticket, self.edition, self.line = 0, -1, 0, []
        self.send(first)

    def send(self, question):
        self.ticket += 1
        self.last = (self.who, question, self.ticket)
        self.sent, self.shows = self.far[self.edition][question], 0
        self.line = (self.line + [self.last + (self.sent,)])[-self.room:]

    def steps(self, questions):
        found = [("ask", question) for question in questions if question != self.last[1]]
        found += [("land", number) for number in range(len(self.line))]
        found += [("far",)] if self.edition + 1 < len(self.far) else []
        return found + [("again", question) for question in questions]

    def do(self, step):
        if step[0] == "far":
            self.edition += 1
        elif step[0] == "land":
            *told, answer = self.line.pop(step[1])
            same = [1 if told[0] == self.last[0] else 9, 2 if told[1] == self.last[1] else 9, 3 if told[2] == self.last[2] else 9]
            if self.lets(*same):
                self.shows = answer
        else:
            self.who += step[0] == "again"
            self.send(step[1])
        return self.shows not in (0, self.sent)


def slow_late_row(word, far, room, questions, longest):
    """The first shortest row of at most so many steps, gone through without leaving anything out."""
    waiting = [[]]
    for _ in range(longest):
        longer = []
        for row in waiting:
            asker = SlowAsker(word, far, room, questions[0])
            for step in row:
                asker.do(step)
            for step in asker.steps(questions):
                asker = SlowAsker(word, far, room, questions[0])
                for done in row:
                    asker.do(done)
                if asker.do(step):
                    return row + [step]
                longer.append(row + [step])
        waiting = longer
    return None


class Late(unittest.TestCase):
    def test_first_shortest_rows(self):
        far = ((1, 2, 3, 1), (2, 3, 1, 2))
        self.assertEqual(late_row("any", far, 2, [0, 1]), [("ask", 1), ("land", 0)])
        self.assertEqual(late_row("own", far, 2, [0, 1]), [("ask", 1), ("land", 0)])
        self.assertEqual(late_row("same", far, 2, [0, 1]), [("far",), ("again", 0), ("land", 0)])
        self.assertEqual(late_row("both", far, 3, [0, 1]), [("ask", 1), ("far",), ("ask", 0), ("land", 0)])
        self.assertIsNone(late_row("last", far, 3, [0, 1, 2, 3]))

    def test_the_order_of_the_list_counts(self):
        self.assertEqual(late_row("any", FAR[:1], 2, [2, 0, 1]), [("ask", 0), ("land", 0)])
        self.assertEqual(late_row("any", FAR[:1], 2, [2, 1, 0]), [("ask", 1), ("land", 0)])
        self.assertEqual(late_row("any", FAR[:1], 2, [0, 3, 1]), [("ask", 1), ("land", 0)])

    def test_one_question_room_for_one_and_one_edition(self):
        for word in WORDS:
            self.assertIsNone(late_row(word, FAR[:1], 3, [2]))
            self.assertIsNone(late_row(word, FAR, 1, [0, 1, 2, 3]))
            self.assertIsNone(late_row(word, ((1, 1, 1, 1),) * 3, 3, [3, 2, 1, 0]))
        self.assertIsNone(late_row("own", FAR, 3, [0]))
        self.assertEqual(late_row("any", FAR, 3, [0]), [("far",), ("again", 0), ("land", 0)])
        self.assertIsNone(late_row("same", FAR[:1], 3, [0, 1, 2, 3]))

    def test_against_all_rows(self):
        for word in WORDS:
            for far, room, questions in [
                (FAR[:1], 2, [0, 2]), (FAR[:2], 2, [0]), (FAR[:2], 2, [1, 0]), (FAR, 3, [0, 1]), (FAR[1:], 2, [2, 3]),
                (FAR[:2], 1, [0, 1]), (((1, 1, 2, 2), (1, 1, 2, 3)), 2, [0, 1]), (((1, 1, 2, 2), (1, 1, 2, 3)), 2, [0, 3]),
            ]:
                told = late_row(word, far, room, questions)
                with self.subTest(word=word, far=far, room=room, questions=questions):
                    longest = 4 if told is None else len(told)
                    self.assertEqual(slow_late_row(word, far, room, questions, min(longest, 6)), told)

    def test_nothing_is_changed(self):
        questions = [0, 1]
        late_row("any", FAR, 2, questions)
        weakest(FAR, 2, questions)
        self.assertEqual(questions, [0, 1])


class Weakest(unittest.TestCase):
    def test_weakest(self):
        self.assertEqual(weakest(FAR, 1, [0, 1, 2, 3]), ("any",))
        self.assertEqual(weakest(FAR[:1], 3, [0]), ("any",))
        self.assertEqual(weakest(FAR[:1], 2, [0, 1]), ("same",))
        self.assertEqual(weakest(FAR, 2, [0]), ("own",))
        self.assertEqual(weakest(FAR, 3, [0, 1]), ("last",))
        self.assertEqual(weakest(((1, 1, 2, 2), (1, 1, 2, 3)), 3, [0, 1]), ("any",))
        self.assertEqual(weakest(((1, 2, 1, 1), (1, 2, 1, 1)), 3, [0, 1]), ("same",))

    def test_answers_that_change_and_do_not_part(self):
        far = ((1, 1, 1, 1), (2, 2, 2, 2))
        self.assertEqual(weakest(far, 2, [0]), ("own",))
        self.assertEqual(weakest(far, 2, [0, 1]), ("last",))

    def test_they_are_never_late_and_no_weaker_one_is(self):
        for far in (FAR, FAR[:1], ((1, 1, 2, 3), (1, 1, 3, 2))):
            for room in (1, 2, 3):
                for questions in ([0], [0, 1], [3, 2], [1]):
                    good = [word for word in WORDS if late_row(word, far, room, questions) is None]
                    told = weakest(far, room, questions)
                    self.assertEqual(told, tuple([word for word in good if not any([
                        fence_of(word) <= fence_of(other) for other in good if other != word])]))
                    self.assertIn("last", good)


if __name__ == "__main__":
    unittest.main()
