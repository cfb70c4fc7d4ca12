"""Sayings: always, never, letters, and what not, and, or, either-or make of them."""

from fillsay.forms import added, joined, multiplied, opposite


class Saying:
    pass


class Always(Saying):

    def text(self):
        return "1"

    def size(self):
        return 1

    def letters(self):
        return ""

    def truth(self, row):
        return True

    def form(self):
        return ("",)


class Never(Saying):

    def text(self):
        return "0"

    def size(self):
        return 1

    def letters(self):
        return ""

    def truth(self, row):
        return False

    def form(self):
        return ()


class Letter(Saying):

    def __init__(self, letter):
        self.letter = letter

    def text(self):
        return self.letter

    def size(self):
        return 1

    def letters(self):
        return self.letter

    def truth(self, row):
        return row[self.letter]

    def form(self):
        return (self.letter,)


class Not(Saying):

    def __init__(self, one):
        self.one = one

    def text(self):
        return "~" + self.one.text()

    def size(self):
        return 1 + self.one.size()

    def letters(self):
        return self.one.letters()

    def truth(self, row):
        return not self.one.truth(row)

    def form(self):
        return opposite(self.one.form())


# What and, or, either-or have in common; it is no saying by itself.
class Pair(Saying):

    def __init__(self, one, other):
        self.one = one
        self.other = other

    def size(self):
        return 1 + self.one.size() + self.other.size()

    def letters(self):
        return "".join(sorted(set(self.one.letters() + self.other.letters())))


class And(Pair):

    def text(self):
        return "(" + self.one.text() + "&" + self.other.text() + ")"

    def truth(self, row):
        return self.one.truth(row) and self.other.truth(row)

    def form(self):
        return multiplied(self.one.form(), self.other.form())


class Or(Pair):

    def text(self):
        return "(" + self.one.text() + "|" + self.other.text() + ")"

    def truth(self, row):
        return self.one.truth(row) or self.other.truth(row)

    def form(self):
        return joined(self.one.form(), self.other.form())


class Either(Pair):

    def text(self):
        return "(" + self.one.text() + "+" + self.other.text() + ")"

    def truth(self, row):
        return self.one.truth(row) != self.other.truth(row)

    def form(self):
        return added(self.one.form(), self.other.form())
