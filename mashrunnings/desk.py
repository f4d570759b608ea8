"""A desk: a book's text in which rows put right, strike, undo, wish and ask; answers are texts."""

from mashrunnings.accounts import Account
from mashrunnings.book import Book
from mashrunnings.errors import NoEntry, NoThing
from mashrunnings.fractions import fraction_text
from mashrunnings.leasts import least_of
from mashrunnings.making import made_of
from mashrunnings.readings import read_rows
from mashrunnings.steps import desk_step_in
from mashrunnings.traces import malts_in, runnings_in, sums_of
from mashrunnings.wishes import running_of
from mashrunnings.worts import points_of


def listed(rows):
    """Rows of words as one text, `-` where there is none."""
    return "; ".join([" ".join(row) for row in rows]) if len(rows) > 0 else "-"


def row_words(row):
    """The words of a name and fractions behind it."""
    name, *worths = row
    return [name] + [fraction_text(worth) for worth in worths]


def do_enter(book, wishes, step):
    """Enter a deed, without an answer."""
    word, hour, deed = step
    book.enter(hour, deed)
    return None


def do_right(book, wishes, step):
    """Put an entry right."""
    word, number, hour, deed = step
    book.put_right(number, hour, deed)
    return "done"


def do_strike(book, wishes, step):
    """Strike an entry."""
    book.strike(step[1])
    return "done"


def do_undo(book, wishes, step):
    """Undo the last that was done to the book."""
    book.undo()
    return "done"


def do_wish(book, wishes, step):
    """One wish more, without an answer."""
    wishes.append(step[1])
    return None


def left_answer(book, wishes, step):
    """What is left of all of a sort."""
    word, sort, hour = step
    account = Account(book, hour)
    worts = [(name, account.left(sort, name)) for name in account.names(sort)]
    return listed([row_words((name, wort[0], points_of(wort))) for name, wort in worts if wort is not None])


def voids_answer(book, wishes, step):
    """The deeds that couldn't be done."""
    return listed([[str(hour), str(number), word] for hour, number, word in Account(book, step[1]).voids()])


def runnings_answer(book, wishes, step):
    """The runnings in a cask."""
    word, cask, hour = step
    found = runnings_in(Account(book, hour), "cask", cask)
    return listed([row_words(row) for row in found])


def malts_answer(book, wishes, step):
    """The malts in a cask."""
    word, cask, hour = step
    found = malts_in(Account(book, hour), "cask", cask)
    return listed([row_words(row) for row in found])


def sums_answer(book, wishes, step):
    """Where all is that the malts gave."""
    return listed([row_words(row) for row in sums_of(Account(book, step[1]))])


def sold_answer(book, wishes, step):
    """The casks sold."""
    found = Account(book, step[1]).sold()
    return listed([[cask, str(price), str(duty)] for cask, price, duty in found])


def runnings_left(book, step):
    """What is left of the runnings of a step, in order; None where nothing is left of one; refused with NoThing."""
    word, hour, names = step
    account = Account(book, hour)
    worts = [account.left("running", name) for name in names]
    if any(wort is None for wort in worts):
        return None
    return [running_of(wort) for wort in worts]


def made_answer(book, wishes, step):
    """Whether the wishes can be made."""
    runnings = runnings_left(book, step)
    if runnings is None:
        return "no"
    if len(wishes) == 0:
        return "yes"
    mixing, prices = made_of(runnings, wishes)
    return "no" if mixing is None else "yes"


def least_answer(book, wishes, step):
    """How many times the runnings make the wishes at least."""
    runnings = runnings_left(book, step)
    if runnings is None:
        return "never"
    if len(wishes) == 0:
        return "0"
    least, mixing, prices = least_of(runnings, wishes)
    return "never" if least is None else fraction_text(least)


ANSWERS = {
    "enter": do_enter,
    "right": do_right,
    "strike": do_strike,
    "undo": do_undo,
    "wish": do_wish,
    "left": left_answer,
    "voids": voids_answer,
    "runnings": runnings_answer,
    "malts": malts_answer,
    "sums": sums_answer,
    "sold": sold_answer,
    "made": made_answer,
    "least": least_answer,
}


def answer_of(book, wishes, step):
    """The answer to a step, a refusal too; None where it has none."""
    answer = ANSWERS[step[0]]
    try:
        return answer(book, wishes, step)
    except NoEntry:
        return "refused NoEntry"
    except NoThing:
        return "refused NoThing"


def run(text):
    """The answers to a desk's text, in order; refused with BadRow ahead of all answers."""
    prices, duty, steps = read_rows(text, desk_step_in)
    book = Book(prices, duty)
    wishes = []
    answers = []
    for step in steps:
        told = answer_of(book, wishes, step)
        if told is not None:
            answers.append(told)
    return answers
