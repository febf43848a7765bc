"""Checks of raised errors, and of results, that the tests share."""

from stoodthere.errors import InvalidPaper, InvalidText, NotUsable


class Checks:
    """To be mixed into a TestCase."""

    def assert_not_usable(self, name, function, *given):
        with self.assertRaises(NotUsable) as caught:
            function(*given)
        self.assertIs(type(caught.exception), NotUsable)
        self.assert_same(caught.exception.word, name)
        self.assert_same(caught.exception.at, -1)

    def assert_refused(self, word, at, checker, *given):
        with self.assertRaises(InvalidPaper) as caught:
            checker(*given)
        self.assertIs(type(caught.exception), InvalidPaper)
        self.assert_same((caught.exception.word, caught.exception.at), (word, at))

    def assert_unread(self, at, reader, text):
        with self.assertRaises(InvalidText) as caught:
            reader(text)
        self.assertIs(type(caught.exception), InvalidText)
        self.assert_same((caught.exception.line, caught.exception.at), (0, at))

    def assert_same(self, got, wanted):
        """Equal, and of the same sorts throughout: True is not 1, a list is no tuple."""
        self.assertEqual(got, wanted)
        self.assertEqual(repr(got), repr(wanted))
