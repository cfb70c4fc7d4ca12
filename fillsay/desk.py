"""The desk: a task is kept, and lines are told that change it or ask of it."""

from fillsay.alikes import gap_told
from fillsay.between import between
from fillsay.counting import filling_at, how_many
from fillsay.errors import NoLine, NothingDone
from fillsay.papers import paper_of
from fillsay.texts import form_text, read
from fillsay.wishes import Task

# How many words a line has, by its first one; behind wish any text may stand.
WORDS = {"letters": 3, "back": 1, "wishes": 1, "fault": 1, "count": 1, "widest": 1, "filling": 2, "gap": 2, "leads": 4}
FIGURES = "0123456789"
MOST_FIGURES = 30


class Desk:

    # The last task is the one that is kept; those ahead of it are what back goes back to.
    def __init__(self):
        self.tasks = [Task("", "", [])]

    def told(self, line):
        words = words_of(line)
        task = self.tasks[-1]
        if words[0] == "letters":
            self.tasks.append(Task(row_read(words[1]), row_read(words[2]), []))
        elif words[0] == "wish":
            self.tasks.append(Task(task.givens(), task.gaps(), task.wishes() + [words[1]]))
        elif words[0] == "back":
            self.take_back()
        else:
            return answer_of(task, words)
        return [str(len(self.tasks[-1].wishes()))]

    def take_back(self):
        if len(self.tasks) == 1:
            raise NothingDone()
        self.tasks.pop()


def words_of(line):
    if line.startswith("wish "):
        return ["wish", line[len("wish "):]]
    words = line.split(" ")
    if "" in words or WORDS.get(words[0]) != len(words):
        raise NoLine()
    if words[0] == "filling" and not is_number(words[1]):
        raise NoLine()
    if words[0] == "leads" and words[2] != "to":
        raise NoLine()
    return words


def is_number(word):
    if not all([sign in FIGURES for sign in word]) or len(word) > MOST_FIGURES:
        return False
    return word == "0" or not word.startswith("0")


def row_read(word):
    return "" if word == "-" else word


def answer_of(task, words):
    if words[0] == "wishes":
        return task.wishes()
    if words[0] == "fault":
        return [form_text(task.fault())]
    if words[0] == "count":
        return [str(how_many(task))]
    if words[0] == "widest":
        return widest_texts(task)
    if words[0] == "filling":
        return filling_texts(task, filling_at(task, int(words[1])))
    if words[0] == "gap":
        return [gap_text(gap_told(task, words[1]))]
    return [leads_text(read(words[1]), read(words[3]))]


def widest_texts(task):
    paper = paper_of(task)
    if paper[0] == "filled":
        return filling_texts(task, paper[1])
    return ["none " + form_text(paper[2])]


def filling_texts(task, filling):
    return [gap + " = " + form_text(form) for gap, form in zip(task.gaps(), filling)]


def gap_text(answer):
    if answer[0] == "same":
        return "same " + form_text(answer[1])
    return "apart"


def leads_text(one, other):
    answer = between(one.form(), other.form())
    if answer[0] == "between":
        return "yes " + form_text(answer[1]) + " " + form_text(answer[2])
    return "no"
