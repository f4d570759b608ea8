"""Tests of the desk: point [17], and points [1] and [2] as far as they reach it."""

import re
import unittest

from mashrunnings.desk import run
from mashrunnings.errors import BadRow, NoEntry
from mashrunnings.fractions import fraction_text
from mashrunnings.leasts import least_of
from mashrunnings.making import made_of
from mashrunnings.texts import book_text
from mashrunnings.wishes import running_of
from tests.brews import CASKS, DUTY, PRICES, RUNNINGS, book_with, random_deed
from tests.ledger import PlainAccount, random_brew
from tests.rows import entry_plainly, one_row_otherwise, one_sign_otherwise, one_word_otherwise, read_plainly
from tests.samples import dice, pair_of
from tests.test_book import Model

HEAD = "price 0 3\nprice 20 9\nduty 0 0\nduty 10 2\n"
# First has 10 gallons of strength 6, behind it is weaker, b 3 of strength 15, of rye alone.
BREW = """1 mash big 1/2 4 pale 10 30 brown 4 25
2 liquor big 20
3 draw big 10 first
3 mash late 1 0 rye 3 30
3 liquor late 3
3 draw late 3 b
4 weaker first 60
4 weaker b 45
5 mix ale first 8 b 2
6 rack ale 4 one
7 rack ale 5 a
8 spill cask a 1
9 sell one
9 sell one
"""
# All points of late come with v.
WATER = ("10 liquor late 1", "10 draw late 1 v", "11 liquor late 5", "11 draw late 2 w")
ASKS = ("left running 9", "left beer 9", "left cask 9", "voids 9", "runnings one 9", "malts a 9", "sums 9", "sold 9",
        "made 9 first b", "least 9 b")
EVERY = HEAD + BREW + "wish x 1 3 12\n" + "\n".join(ASKS) + "\nright 2 3 draw big 9 first\nleft running 9\nstrike 12\nundo\nstrike 99"


class PlainDesk:
    """A desk kept plainly: the book by its pages, the account by Fractions, worts mixed as the package tells."""

    def __init__(self, text):
        prices, duty, _ = read_plainly(text, desk=True)
        self.book, self.rates, self.wishes, self.answers = Model(prices, duty), (prices, duty), [], []
        for row in text.split("\n"):
            word, *rest = row.split(" ")
            if entry_plainly(row):
                self.book.enter(*entry_plainly(row))
            elif word not in ("", "price", "duty"):
                answer = getattr(self, "answer_" + word)(*rest)
                self.answers += [] if answer is None else [answer]

    def account(self, hour):
        page, _ = self.book.pages[-1]
        return PlainAccount([(at, number, deed) for number, (at, deed) in page.items()], int(hour), *self.rates)

    def turn(self, method, *things):
        try:
            getattr(self.book, method)(*things)
        except NoEntry:
            return "refused NoEntry"
        return "done"

    def answer_right(self, number, *words):
        return self.turn("put_right", int(number), *entry_plainly(" ".join(words)))

    def answer_strike(self, number):
        return self.turn("strike", int(number))

    def answer_undo(self):
        return self.turn("undo")

    def answer_wish(self, beer, *numbers):
        self.wishes.append((beer, *map(int, numbers)))

    def listed(self, rows):
        """Names, numbers, and Fractions as Python writes them, which is how the document does."""
        return "; ".join(" ".join(map(str, row)) for row in rows) or "-"

    def answer_left(self, sort, hour):
        things = sorted(self.account(hour).things[sort].items())
        return self.listed([(name, thing.gallons, sum(thing.points.values())) for name, thing in things if thing.gallons])

    def answer_voids(self, hour):
        return self.listed(self.account(hour).voids)

    def answer_runnings(self, cask, hour):
        found = self.account(hour).things["cask"].get(cask)
        return self.listed(sorted(found.runnings.items())) if found else "refused NoThing"

    def answer_malts(self, cask, hour):
        found = self.account(hour).things["cask"].get(cask)
        return self.listed(sorted(found.points_first.items())) if found else "refused NoThing"

    def answer_sums(self, hour):
        return self.listed([(malt, *map(fraction_text, worths)) for malt, *worths in self.account(hour).sums()])

    def answer_sold(self, hour):
        return self.listed(self.account(hour).sold)

    def answer_made(self, hour, *names):
        return self.mixed(hour, names, "no", "yes", lambda runnings: "no" if made_of(runnings, self.wishes)[0] is None else "yes")

    def answer_least(self, hour, *names):
        return self.mixed(hour, names, "never", "0", lambda runnings: self.least(least_of(runnings, self.wishes)[0]))

    def least(self, found):
        return "never" if found is None else fraction_text(found)

    def mixed(self, hour, names, nothing, unwished, answer):
        known = self.account(hour).things["running"]
        if any(name not in known for name in names):
            return "refused NoThing"
        if any(not known[name].gallons for name in names):
            return nothing
        if not self.wishes:
            return unwished
        return answer([(pair_of(known[name].gallons), pair_of(sum(known[name].points.values()))) for name in names])


class DeskTest(unittest.TestCase):
    def refuse(self, text, row):
        with self.assertRaises(BadRow) as caught:
            run(text)
        self.assertIs(type(caught.exception), BadRow)
        self.assertEqual(caught.exception.row, row, repr(text))

    def ask(self, *rows, brew=BREW):
        """The answers to these rows behind the brew."""
        told = run(HEAD + brew + "\n".join(rows))
        self.assertIs(type(told), list)
        for answer in told:
            self.assertIs(type(answer), str)
        return told

    def one(self, *rows, brew=BREW):
        """The answer to the last one of these rows, the only one that has any."""
        told = self.ask(*rows, brew=brew)
        self.assertEqual(len(told), 1, told)
        return told[0]

    def bad(self, *rows):
        """The last one of these rows can't stand, whatever stands ahead of it."""
        text = HEAD + BREW + "\n".join(ASKS) + "\n" + "\n".join(rows)
        self.refuse(text, text.count("\n"))
        self.refuse(text + "\nundo\nx", text.count("\n"))

    def read(self, text):
        """The text is answered or refused just as it is when read plainly."""
        expected = read_plainly(text, desk=True)
        if isinstance(expected, int):
            self.refuse(text, expected)
        else:
            self.assertEqual(run(text), PlainDesk(text).answers, text)


class AsksTest(DeskTest):
    def test_entries_and_wishes_have_no_answer(self):
        self.assertEqual(self.ask(), [])
        self.assertEqual(self.ask("wish x 1 0 200"), [])
        self.assertEqual(run("price 0 1\nduty 0 0"), [])

    def test_left(self):
        self.assertEqual(self.one("left running 9"), "b 1 15; first 2 12")
        self.assertEqual(self.one("left beer 9"), "ale 1 39/5")
        self.assertEqual(self.one("left cask 9"), "a 4 156/5")
        self.assertEqual(self.one("left cask 8"), "a 4 156/5; one 4 156/5")
        self.assertEqual(self.one("left running 3"), "b 3 90; first 10 100")
        self.assertEqual(self.one("left running 2"), "-")
        self.assertEqual(self.ask("left beer 4", "left cask 0"), ["-", "-"])

    def test_left_passes_over_what_is_empty(self):
        brew = BREW + "10 spill running b 1\n10 spill beer ale 1\n10 spill cask a 4\n"
        self.assertEqual(self.ask("left running 10", "left beer 10", "left cask 10", brew=brew), ["first 2 12", "-", "-"])

    def test_left_of_water(self):
        self.assertEqual(self.one(*WATER, "left running 11"), "b 1 15; first 2 12; v 1 45; w 2 0")

    def test_voids(self):
        self.assertEqual(self.one("voids 9"), "9 13 sold")
        self.assertEqual(self.one("voids 8"), "-")
        more = ("10 draw big 99 x", "8 liquor none 1", "10 mash big 1 0 a 1 1", "9 weaker first 1")
        self.assertEqual(self.one(*more, "voids 10"), "8 15 none; 9 13 sold; 9 17 used; 10 14 much; 10 16 taken")

    def test_runnings(self):
        self.assertEqual(self.one("runnings one 9"), "b 4/5; first 16/5")
        self.assertEqual(self.one("runnings a 7"), "b 1; first 4")

    def test_malts(self):
        self.assertEqual(self.one("malts a 9"), "brown 6; pale 18; rye 15")
        self.assertEqual(self.one("malts one 10000"), "brown 24/5; pale 72/5; rye 12")
        water = WATER + ("12 mix w w 2", "13 rack w 1 w")
        self.assertEqual(self.one(*water, "malts w 13"), "-")
        self.assertEqual(self.one(*water, "runnings w 13"), "w 1")

    def test_sums(self):
        self.assertEqual(self.one("sums 9"), (
            "brown 100 85 3 6/5 24/5 24/5 6/5; pale 300 255 9 18/5 72/5 72/5 18/5; rye 90 45 15 3 12 12 3"
        ))
        self.assertEqual(self.one("sums 1"), "brown 100 100 0 0 0 0 0; pale 300 300 0 0 0 0 0")
        self.assertEqual(self.one("sums 0"), "-")

    def test_sold(self):
        self.assertEqual(self.one("sold 9"), "one 12 0")
        self.assertEqual(self.one("sold 8"), "-")
        self.assertEqual(self.one("7 sell a", "sold 9"), "a 15 0; one 12 0")
        # Had b not come out weaker, ale were of strength 54/5.
        self.assertEqual(self.ask("strike 7", "sold 9"), ["done", "one 12 8"])

    def test_no_thing(self):
        for row in ("runnings one 5", "runnings none 9", "malts one 5", "malts ale 9", "runnings first 9", "malts x 10000"):
            self.assertEqual(self.one(row), "refused NoThing")

    def test_of_the_book_as_the_rows_ahead_have_made_it(self):
        rows = ("left running 9", "9 draw big 2 x", "left running 9", "2 liquor big 10", "left running 3")
        self.assertEqual(self.ask(*rows), [
            "b 1 15; first 2 12", "b 1 15; first 2 12; x 2 20", "b 3 90; first 10 100",
        ])


class TurnsTest(DeskTest):
    def test_right(self):
        rows = ("right 9 6 rack ale 3 one", "left beer 9", "right 9 7 rack ale 5 one", "left beer 9")
        self.assertEqual(self.ask(*rows), ["done", "ale 2 78/5", "done", "-"])
        self.assertEqual(self.ask("right 0 9999 mash big 1/2 4 pale 10 30", "left running 9"), ["done", "b 3 45"])

    def test_strike(self):
        self.assertEqual(self.ask("strike 9", "left cask 9", "strike 9", "left beer 9"), [
            "done", "a 4 156/5", "refused NoEntry", "ale 5 39",
        ])

    def test_undo(self):
        self.assertEqual(self.ask("undo", "voids 9", "undo", "sold 9", "strike 9", "undo", "left cask 9"), [
            "done", "-", "done", "-", "done", "done", "a 4 156/5; one 4 156/5",
        ])

    def test_undone_to_the_beginning(self):
        self.assertEqual(self.ask(*["undo"] * 16), ["done"] * 14 + ["refused NoEntry"] * 2)
        self.assertEqual(run("price 0 1\nduty 0 0\nundo\n1 sell a\nundo\nundo"), ["refused NoEntry", "done", "refused NoEntry"])

    def test_no_entry(self):
        for number in ("14", "99", "1000000000"):
            self.assertEqual(self.one(f"strike {number}"), "refused NoEntry")
            self.assertEqual(self.one(f"right {number} 5 sell a"), "refused NoEntry")

    def test_numbers_as_the_book_gives_them(self):
        rows = ("undo", "9 spill beer ale 9", "voids 9", "strike 13", "9 spill beer ale 8", "voids 9")
        self.assertEqual(self.ask(*rows), ["done", "9 13 much", "done", "9 14 much"])


class MadeTest(DeskTest):
    def test_no_wish(self):
        self.assertEqual(self.ask("made 9 first", "least 9 first", "made 9 first b", "least 9 b first"), ["yes", "0"] * 2)

    def test_one_to_four_wishes(self):
        # First has 2 gallons of strength 6 left, b 1 of strength 15.
        rows = ["wish w 1 6 6", "made 9 first", "least 9 first", "made 9 b", "least 9 b", "made 9 first b", "least 9 b first"]
        self.assertEqual(self.ask(*rows), ["yes", "1/2", "no", "never", "yes", "1/2"])
        rows = ["wish w 1 6 6", "wish x 1 15 200", "made 9 first b", "least 9 first b", "made 9 first", "least 9 b"]
        self.assertEqual(self.ask(*rows), ["yes", "1", "no", "never"])
        rows = ["wish w 1 6 6", "wish x 1 15 200", "wish y 1 0 7", "made 9 first b", "least 9 b first"]
        self.assertEqual(self.ask(*rows), ["yes", "1"])
        rows = rows[:3] + ["wish z 1 0 200"] + rows[3:]
        self.assertEqual(self.ask(*rows), ["no", "4/3"])

    def test_only_wishes_told_ahead(self):
        rows = ("made 9 first", "wish w 1 7 7", "made 9 first", "made 9 first b", "wish x 3 0 200", "made 9 b first", "least 9 b first")
        self.assertEqual(self.ask(*rows), ["yes", "no", "yes", "no", "4/3"])

    def test_wishes_stay_whatever_is_undone(self):
        self.assertEqual(self.ask("wish w 3 0 200", "undo", "undo", "made 9 first"), ["done", "done", "no"])

    def test_of_runnings_of_which_nothing_is_left(self):
        rows = ("made 10 b", "least 10 b", "made 10 first b", "least 10 b first", "made 9 b", "least 9 b")
        expected = ["no", "never"] * 2
        brew = BREW + "10 spill running b 1\n"
        self.assertEqual(self.ask(*rows, brew=brew), expected + ["yes", "0"])
        self.assertEqual(self.ask("wish w 1 0 200", *rows, brew=brew), expected + ["yes", "1"])

    def test_no_thing_ahead_of_all_else(self):
        brew = BREW + "10 spill running b 1\n"
        for head in ((), ("wish w 1 0 200",)):
            for names in ("x", "first x", "x first", "b x", "x b", "ale", "big", "b one first"):
                self.assertEqual(self.ask(*head, f"made 10 {names}", f"least 10 {names}", brew=brew), ["refused NoThing"] * 2)
            self.assertEqual(self.ask(*head, "made 2 first", "least 2 first"), ["refused NoThing"] * 2)

    def test_of_six_runnings(self):
        draws = "".join(f"10 draw big 1 {name}\n" for name in "cdef")
        rows = ("wish w 7 10 11", "made 10 f e d c b first", "least 10 f e d c b first")
        self.assertEqual(self.ask(*rows, brew=BREW + draws), ["no", "28/25"])

    def test_against_what_the_package_makes(self):
        rolls = dice("made")
        for _ in range(40):
            brew = random_brew(rolls, 40, wrong=0)
            plain = PlainAccount([(hour, at, deed) for at, (hour, deed) in enumerate(brew)], 40, PRICES, DUTY)
            full = [name for name, thing in plain.things["running"].items() if thing.gallons]
            if not full:
                continue
            names = rolls.sample(full, min(len(full), 6))
            wishes = [(beer, rolls.randint(1, 20), least, least + 30) for beer, least in zip("abcd", rolls.sample(range(60), 4))]
            runnings = [running_of(plain.left("running", name)) for name in names]
            least, _, _ = least_of(runnings, wishes)
            rows = [f"wish {beer} {gallons} {low} {high}" for beer, gallons, low, high in wishes]
            rows += [f"made 40 {' '.join(names)}", f"least 40 {' '.join(names)}"]
            told = run(book_text(book_with(*brew)) + "\n" + "\n".join(rows))
            expected = ["no", "never"] if least is None else ["yes" if least[0] <= least[1] else "no", fraction_text(least)]
            self.assertEqual(told, expected)


class BadRowTest(DeskTest):
    def test_as_book_of(self):
        self.refuse("", 1)
        self.refuse("\n\n", 3)
        self.refuse("price 0 1", 1)
        self.refuse("price 0 1\n1 sell a", 1)
        self.refuse("duty 0 1", 0)
        self.refuse(HEAD + "1 sell", 4)
        self.refuse(HEAD + "\n\n1 sell a\n1 liquor a 0", 7)

    def test_ahead_of_all_answers(self):
        self.refuse(EVERY + "\nx", EVERY.count("\n") + 1)
        self.refuse(EVERY.replace("undo", "undo it"), EVERY[:EVERY.index("undo")].count("\n"))

    def test_rows_ahead_of_a_duty(self):
        for row in ASKS + ("undo", "strike 0", "right 0 1 sell a", "wish a 1 1 1", "1 sell a"):
            self.refuse(f"{row}\nprice 0 1\nduty 0 1", 0)
            self.refuse(f"price 0 1\n\n{row}\nduty 0 1", 2)
            self.refuse(f"price 0 1\n{row}", 1)

    def test_no_price_or_duty_behind_any_of_them(self):
        for row in ASKS + ("undo", "strike 0", "right 0 1 sell a", "wish a 1 1 1", "1 sell a"):
            self.assertEqual(len(run(HEAD + row)), 0 if row[:4] in ("wish", "1 se") else 1)
            for late in ("price 70 1", "duty 70 1"):
                self.refuse(f"{HEAD}{row}\n{late}", 5)

    def test_a_fifth_wish_and_one_of_a_beer_told_ahead(self):
        wishes = [f"wish {beer} 1 0 9" for beer in "abcde"]
        self.assertEqual(self.ask(*wishes[:4]), [])
        self.bad(*wishes)
        self.bad(*wishes[:2], "undo", *wishes[2:])
        self.bad(wishes[0], wishes[0])
        self.bad(wishes[0], wishes[1], "wish a 2 1 1")
        self.assertEqual(self.ask("wish ale 1 0 9"), [])

    def test_wishes(self):
        for row in ("wish a 1 0 0", "wish zzzzzzzz 10000 200 200", "wish a 5 0 200"):
            self.assertEqual(self.ask(row), [])
        for row in ("wish", "wish a", "wish a 1", "wish a 1 1", "wish a 1 1 1 1", "wish a 0 1 1", "wish a 10001 1 1",
                    "wish a 1 2 1", "wish a 1 0 201", "wish a 1 201 201", "wish A 1 1 1", "wish  1 1 1", "wish abcdefghi 1 1 1",
                    "wish a 01 1 1", "wish a 1 -1 1", "wish a 1 1 1 ", "wish a 1 1/2 1", " wish a 1 1 1"):
            self.bad(row)

    def test_numbers_of_entries(self):
        for number in ("0", "1000000000"):
            self.assertEqual(len(self.ask(f"strike {number}", f"right {number} 1 sell a")), 2)
        for number in ("", "-1", "1000000001", "00", "01", "a", "1 1", "1.0"):
            self.bad(f"strike {number}")
            self.bad(f"right {number} 1 sell a")
        for row in ("strike", "right", "right 0", "right 0 1", "right 0 1 sell", "right 0 sell a", "right 0 10001 sell a",
                    "right 0 1 liquor a 0", "right 0  1 sell a", "undo 0", "undo ", "right 0 1 undo", "strike 0 1 sell a"):
            self.bad(row)

    def test_hours_and_names_of_asks(self):
        for hour in ("0", "10000"):
            self.assertEqual(len(self.ask(*[re.sub("9", hour, row) for row in ASKS])), 10)
        for row in ASKS:
            for hour in ("", "10001", "-1", "00", "09", "a", "9 ", " 9", "1.0", "9/1"):
                self.bad(re.sub("9", hour, row))
            self.bad(re.sub(" ?9", "", row) if not row.startswith(("made", "least")) else row.replace(" 9", ""))
            self.bad(row.split(" ")[0])
            self.bad(row + " ")
            self.bad(" " + row)
            self.bad(row.replace(" ", "  ", 1))
            self.bad(row.upper())
        for row in ("left mash 9", "left runnings 9", "left 9", "left beer ale 9", "voids 9 9", "runnings A 9", "runnings abcdefghi 9",
                    "malts 9 one", "malts one", "sums one 9", "sold one 9", "left  9", "casks first 9", "rows 9", "names 9"):
            self.bad(row)

    def test_runnings_of_made_and_least(self):
        for word in ("made", "least"):
            self.assertEqual(len(self.ask(f"{word} 9 a b c d e f")), 1)
            for row in ("9", "9 ", "9 a a", "9 a b a", "9 a b c d e f g", "9 A", "9 a  b", "a", "a 9", "9 a 9", "9 abcdefghi", ""):
                self.bad(f"{word} {row}")

    def test_entries_counted_by_their_rows_undone_ones_too(self):
        rows = [f"{at} sell one" for at in range(61)]
        self.assertEqual(len(run(HEAD + "\n".join(rows[:60]) + "\nvoids 9\nright 0 1 sell a\nundo")), 3)
        self.refuse(HEAD + "\n".join(rows), 64)
        undone = [row + "\nundo" for row in rows]
        self.assertEqual(run(HEAD + "\n".join(undone[:60])), ["done"] * 60)
        self.refuse(HEAD + "\n".join(undone), 4 + 120)
        struck = [f"{row}\nstrike {at}" for at, row in enumerate(rows)]
        self.assertEqual(run(HEAD + "\n".join(struck[:60])), ["done"] * 60)
        self.refuse(HEAD + "\n".join(struck), 4 + 120)

    def test_empty_rows_are_passed_over(self):
        self.assertEqual(run("\n" + EVERY.replace("\n", "\n\n") + "\n"), run(EVERY))

    def test_four_hundred_rows(self):
        text = EVERY + "\n" * (399 - EVERY.count("\n"))
        self.assertEqual(run(text), run(EVERY))
        self.refuse(text + "x", 399)

    def test_one_sign_otherwise_at_any_place(self):
        for text in one_sign_otherwise(EVERY, dice("desk signs"), 2):
            self.read(text)

    def test_one_word_otherwise_at_any_place(self):
        rolls = dice("desk words")
        for text in rolls.sample(one_word_otherwise(EVERY, rolls), 2500):
            self.read(text)

    def test_one_row_otherwise_at_any_place(self):
        rolls = dice("desk rows")
        rows = ("price 0 1", "duty 70 1", "wish x 1 1 1", "wish y 1 1 1", "undo", "x", "made 9 first x", "1 sell a")
        for text in rolls.sample(one_row_otherwise(EVERY, rows), 900):
            self.read(text)


class RowsPutInTest(DeskTest):
    def test_refused_or_undone_at_once(self):
        rows = EVERY.split("\n")
        expected = run(EVERY)
        for at in range(4, len(rows) + 1):
            for put, answers in (
                (["strike 98"], ["refused NoEntry"]), (["right 97 3 sell one"], ["refused NoEntry"]),
                (["runnings none 9"], ["refused NoThing"]), (["made 9 none"], ["refused NoThing"]),
                (["3 spill running first 1", "undo"], ["done"]), (["0 mash big 1 0 a 1 1", "undo"], ["done"]), ([""], []),
            ):
                told = run("\n".join(rows[:at] + put + rows[at:]))
                found = [told[:many] + told[many + len(answers):] for many in range(len(told)) if told[many:many + len(answers)] == answers]
                self.assertIn(expected, found or [told], (at, put))

    def test_put_right_or_struck_and_undone_at_once(self):
        rows = EVERY.split("\n")
        expected = run(EVERY)
        at = rows.index(ASKS[0])
        for put in ("right 2 3 draw big 1 first", "strike 2", "right 0 10000 sell a"):
            for place in range(at, len(rows) + 1):
                told = run("\n".join(rows[:place] + [put, "undo"] + rows[place:]))
                found = [told[:many] + told[many + 2:] for many in range(len(told)) if told[many:many + 2] == ["done", "done"]]
                self.assertIn(expected, found, (put, place))

    def test_the_same_text_is_told_the_same(self):
        one, other = run(EVERY), run(EVERY)
        self.assertEqual(one, other)
        one.clear()
        self.assertEqual(run(EVERY), other)


class ManyRowsTest(DeskTest):
    def random_row(self, rolls):
        hour = rolls.randint(0, 45)
        cask, runnings = rolls.choice(CASKS[:9]), rolls.sample(RUNNINGS, rolls.choice((1, 1, 2, 3, 6)))
        number = rolls.randint(0, 45)
        deed = book_text(book_with((hour, random_deed(rolls, 3)))).split("\n")[-1]
        return rolls.choice((
            f"left {rolls.choice(('running', 'beer', 'cask'))} {hour}", f"voids {hour}", f"runnings {cask} {hour}", f"malts {cask} {hour}",
            f"sums {hour}", f"sold {hour}", f"made {hour} {' '.join(runnings)}", f"least {hour} {' '.join(runnings)}", "undo",
            f"strike {number}", f"right {number} {deed}", f"right {number} {deed}",
        ))

    def test_against_a_plain_desk(self):
        for seed in range(40):
            rolls = dice(f"desk {seed}")
            brew = random_brew(rolls, 45, wrong=0.1)
            rows = book_text(book_with(*brew)).split("\n")
            head, entries = rows[:5], rows[5:]
            for _ in range(35):
                entries.insert(rolls.choice((len(entries), rolls.randint(0, len(entries)))), self.random_row(rolls))
            for beer in rolls.sample("abcdefgh", rolls.randint(0, 4)):
                least = rolls.randint(0, 60)
                row = f"wish {beer} {rolls.randint(1, 30)} {least} {least + rolls.choice((0, 5, 60))}"
                entries.insert(rolls.randint(0, len(entries)), row)
            self.read("\n".join(head + entries))


if __name__ == "__main__":
    unittest.main()
