"""Texts read character by character, and the place of the first character that can't be read."""

from pointingreads.errors import BadText
from pointingreads.lettering import MOST_LETTERS, SMALL

DIGITS = "0123456789"


class Cursor:
    """A place in a text. Each line of the text begins with what is ahead, but for the first one."""

    def __init__(self, text, ahead):
        self.text = text
        self.ahead = ahead
        self.at = 0

    def sees(self, signs):
        """Whether the next character is one of the signs."""
        return self.at < len(self.text) and self.text[self.at] in signs

    def take(self, signs):
        """The next character, which has to be one of the signs."""
        if not self.sees(signs):
            before = self.text[:self.at]
            raise BadText(before.count("\n"), self.at - 1 - before.rfind("\n"))
        self.at += 1
        return self.text[self.at - 1]

    def some(self, signs, most):
        """One or more characters, at most so many, as far as they are signs."""
        found = [self.take(signs)]
        while len(found) < most and self.sees(signs):
            found.append(self.take(signs))
        return "".join(found)

    def integer(self, most):
        """An integer of at most so many digits."""
        if self.sees("0"):
            return int(self.take("0"))
        return self.counted(most)

    def counted(self, most):
        """An integer of at most so many digits from 1 on."""
        first = self.take(DIGITS[1:])
        rest = self.some(DIGITS, most - 1) if most > 1 and self.sees(DIGITS) else ""
        return int(first + rest)

    def small_name(self):
        """A name."""
        return self.some(SMALL, MOST_LETTERS)

    def word_of(self, words):
        """One of some words, of which none begins another one."""
        found = ""
        while found not in words:
            found = found + self.take([word[len(found)] for word in words if word.startswith(found)])
        return found

    def new_line(self):
        """Goes to the next line."""
        self.take("\n")
        for sign in self.ahead:
            self.take(sign)

    def goes_on(self):
        """Whether there is a next line of this kind."""
        if not self.sees("\n"):
            return False
        return self.ahead == "" or self.text[self.at + 1:self.at + 2] == self.ahead[0]

    def finish(self):
        """The text has to end here."""
        if self.at < len(self.text):
            self.take("")


def scanned(text, scan):
    """What scan(cursor) tells of a whole text."""
    if type(text) != str:
        raise BadText(None, None)
    cursor = Cursor(text, "")
    found = scan(cursor)
    cursor.finish()
    return found
