"""Reads terms, patterns and rules from a text.

What is read need not be within all bounds of such values. Who reads it compares the text with the one that
formatting returns; so a reader may also leave a rest unread.
"""

from firmrows.base.rows import is_name
from firmrows.errors import ParseError

SIGNS = "abcdefghijklmnopqrstuvwxyz0123456789-"
WORDS = ("any", "none", "empty")
WIDTHS = ("none 0", "none 1", "none 2", "none 3")
MAX_DIGITS = 40


def is_number_text(word):
    """Return whether a word of signs is an integer of at most forty digits, as written by `str`."""
    digits = word[1:] if word[:1] == "-" else word
    if not 1 <= len(digits) <= MAX_DIGITS or not digits.isdigit():
        return False
    return str(int(word)) == word


class Reader:
    """A text, and how much of it was read."""

    def __init__(self, text):
        if not isinstance(text, str):
            raise ParseError("not a string")
        self._text = text
        self._place = 0

    def has(self, word):
        """Read a word if it comes next, and return whether it does."""
        end = self._place + len(word)
        if self._text[self._place:end] != word:
            return False
        self._place = end
        return True

    def need(self, word):
        """Read a word that must come next."""
        if not self.has(word):
            raise ParseError("something else was expected")

    def word(self):
        """Read the letters, digits and minus signs that come next."""
        start = self._place
        while self._place < len(self._text) and self._text[self._place] in SIGNS:
            self._place = self._place + 1
        return self._text[start:self._place]

    def term_of(self, word):
        """Return the term that a word is."""
        if is_name(word):
            return word
        if not is_number_text(word):
            raise ParseError("not a term")
        return int(word)

    def terms(self):
        """Read terms in parentheses, as a tuple."""
        self.need("(")
        if self.has(")"):
            return ()
        terms = [self.term_of(self.word())]
        while self.has(", "):
            terms.append(self.term_of(self.word()))
        self.need(")")
        return tuple(terms)

    def pattern_with(self, name):
        """Read what follows the name of a pattern, and return the pattern."""
        terms = self.terms()
        if not is_name(name) or len(terms) > 3:
            raise ParseError("not a pattern")
        return (name,) + terms

    def pattern(self):
        """Read a pattern."""
        return self.pattern_with(self.word())

    def patterns(self, mark):
        """Read patterns, with a mark between two of them, or a word; return a tuple of patterns, or the word."""
        word = self.word()
        if word in WORDS and not self.comes("("):
            return word
        found = [self.pattern_with(word)]
        while self.has(mark):
            found.append(self.pattern())
        return tuple(found)

    def comes(self, sign):
        """Return whether a sign comes next, without reading it."""
        return self._text[self._place:self._place + 1] == sign

    def read_rows(self):
        """Read rows, as those of a database."""
        found = self.patterns("; ")
        if isinstance(found, str) and found != "empty":
            raise ParseError("not rows")
        return () if found == "empty" else found

    def read_parts(self, words):
        """Read parts of a licence, each behind a word, and return a list of tuples of patterns or "any"."""
        parts = []
        for word in words:
            self.need(word)
            part = self.patterns(", ")
            if part == "empty":
                raise ParseError("not a part of a licence")
            parts.append(() if part == "none" else part)
        return parts

    def add_part(self, parts):
        """Read a part of a rule, and add it to one of three lists."""
        word = self.word()
        if self.comes("("):
            parts[0].append(self.pattern_with(word))
        elif self.has(" != "):
            parts[2].append((self.term_of(word), self.term_of(self.word())))
        elif word == "not" and self.has(" "):
            parts[1].append(self.pattern())
        else:
            raise ParseError("not a part of a rule")

    def read_rule(self):
        """Read a rule."""
        head = self.terms()
        parts = ([], [], [])
        if self.has(" if "):
            self.add_part(parts)
            while self.has(", "):
                self.add_part(parts)
        return (head,) + tuple([tuple(part) for part in parts])

    def read_rules(self):
        """Read rules, as those of a question."""
        found = [self.read_rule()]
        while self.has("; "):
            found.append(self.read_rule())
        return tuple(found)

    def read_width(self):
        """Read the width of a question without rules, or return None."""
        for width, text in enumerate(WIDTHS):
            if self.has(text):
                return width
        return None
