"""Rows of books' and desks' texts read plainly, by patterns, and texts that are a little otherwise."""

import re
from fractions import Fraction

from tests.brews import is_deed_plainly

NUMBER, NAME = "(0|[1-9][0-9]*)", "([a-z]{1,8})"
PATTERNS = {
    "mash": f"mash {NAME} ([0-9/]+) {NUMBER}((?: {NAME} {NUMBER} {NUMBER})+)",
    "liquor": f"liquor {NAME} {NUMBER}",
    "draw": f"draw {NAME} {NUMBER} {NAME}",
    "weaker": f"weaker {NAME} {NUMBER}",
    "return": f"return {NAME} {NUMBER} {NAME}",
    "mix": f"mix {NAME}((?: {NAME} {NUMBER})+)",
    "rack": f"rack {NAME} {NUMBER} {NAME}",
    "spill": f"spill {NAME} {NAME} {NUMBER}",
    "sell": f"sell {NAME}",
}
ASKS = (
    f"left (?:running|beer|cask) {NUMBER}", f"voids {NUMBER}", f"runnings {NAME} {NUMBER}", f"malts {NAME} {NUMBER}",
    f"sums {NUMBER}", f"sold {NUMBER}",
)
SIGNS = "0 1 9 a z A - / ; ~ + _ .".split() + [" ", "\n", ":", "`", "{"]


def fraction_plainly(word):
    """The pair of a fraction that is written as the document tells, else None."""
    if not re.fullmatch("[0-9]+(/[0-9]*[1-9][0-9]*)?", word):
        return None
    worth = Fraction(word)
    return (worth.numerator, worth.denominator) if str(worth) == word else None


def deed_plainly(row):
    """The deed of a row, else None."""
    kind = row.split(" ")[0]
    found = re.fullmatch(PATTERNS[kind], row) if kind in PATTERNS else None
    if not found:
        return None
    if kind == "mash":
        rest = found.group(4).split(" ")[1:]
        malts = tuple((rest[at], int(rest[at + 1]), int(rest[at + 2])) for at in range(0, len(rest), 3))
        deed = ("mash", found.group(1), malts, fraction_plainly(found.group(2)), int(found.group(3)))
    elif kind == "mix":
        rest = found.group(2).split(" ")[1:]
        deed = ("mix", found.group(1), tuple((rest[at], int(rest[at + 1])) for at in range(0, len(rest), 2)))
    else:
        deed = (kind, *[int(word) if re.fullmatch("[0-9]+", word) else word for word in row.split(" ")[1:]])
    return deed if is_deed_plainly(deed) else None


def entry_plainly(row):
    """The pair (hour, deed) of an entry's row, else None."""
    found = re.fullmatch(f"{NUMBER} ([^\n]*)", row)
    if not found or int(found.group(1)) > 10 ** 4:
        return None
    deed = deed_plainly(found.group(2))
    return None if deed is None else (int(found.group(1)), deed)


def rate_plainly(row, word):
    found = re.fullmatch(f"{word} {NUMBER} {NUMBER}", row)
    if not found or int(found.group(1)) > 200 or int(found.group(2)) > 10 ** 6:
        return None
    return (int(found.group(1)), int(found.group(2)))


def stands_at_desk(row, ahead):
    """Whether a row other than an entry may stand in a desk's text behind these rows."""
    found = re.fullmatch(f"right {NUMBER} ([^\n]*)", row)
    if found:
        return int(found.group(1)) <= 10 ** 9 and entry_plainly(found.group(2)) is not None
    found = re.fullmatch(f"strike {NUMBER}", row)
    if found or row == "undo":
        return row == "undo" or int(found.group(1)) <= 10 ** 9
    found = re.fullmatch(f"wish {NAME} {NUMBER} {NUMBER} {NUMBER}", row)
    if found:
        gallons, least, most = map(int, found.groups()[1:])
        others = [other.split(" ")[1] for other in ahead if other.startswith("wish ")]
        fits = 1 <= gallons <= 10 ** 4 and least <= most <= 200
        return fits and len(others) < 4 and found.group(1) not in others
    found = re.fullmatch(f"(?:made|least) {NUMBER}((?: {NAME})+)", row)
    if found:
        names = found.group(2).split(" ")[1:]
        return int(found.group(1)) <= 10 ** 4 and len(names) <= 6 and len(set(names)) == len(names)
    for ask in ASKS:
        found = re.fullmatch(ask, row)
        if found:
            return int(found.groups()[-1]) <= 10 ** 4
    return False


def read_plainly(text, desk=False):
    """(prices, duty, entries) of a text, or the number of the row for which it is refused."""
    rows, prices, duty, entries, ahead = text.split("\n"), [], [], [], []
    for at, row in enumerate(rows):
        if row == "":
            continue
        word = row.split(" ")[0]
        if word in ("price", "duty"):
            rates = prices if word == "price" else duty
            pair = rate_plainly(row, word)
            late = ahead or (duty if word == "price" else not prices)
            if pair is None or late or len(rates) == 8 or pair[0] <= (rates[-1][0] if rates else -1) or (not rates and pair[0]):
                return at
            rates.append(pair)
            continue
        entry = entry_plainly(row)
        if not duty or (entry is None and not (desk and stands_at_desk(row, ahead))) or (entry and len(entries) == 60):
            return at
        ahead.append(row)
        if entry:
            entries.append(entry)
    return (prices, duty, entries) if duty else len(rows)


def one_sign_otherwise(text, rolls, many=4):
    """The text with one sign left out, put in or put instead, at every place."""
    found = []
    for at in range(len(text) + 1):
        found.append(text[:at] + text[at + 1:])
        for sign in rolls.sample(SIGNS, many):
            found.extend([text[:at] + sign + text[at:], text[:at] + sign + text[at + 1:]])
    return found


def one_word_otherwise(text, rolls):
    """The text with one word left out, twice, changed with the next one, or another one instead, at every place."""
    others = ("", "0", "1", "7", "12", "200", "201", "9999", "10000", "10001", "1000000", "1000001", "10000000", "10000001",
              "1000000000", "1000000001", "00", "07", "-1", "+1", "1/2", "2/4", "1/13", "13/12", "1/1", "a", "abcdefgh",
              "abcdefghi", "A", "price", "duty", "mash", "mix", "sell", "running", "beer", "cask", "1.5", "1e3", "0x1")
    found = []
    words = re.split("([ \n])", text)
    for at in range(0, len(words), 2):
        found.append("".join(words[:at] + words[at + 2:]))
        found.append("".join(words[:at] + [words[at], " ", words[at]] + words[at + 1:]))
        if at + 2 < len(words):
            found.append("".join(words[:at] + [words[at + 2], words[at + 1], words[at]] + words[at + 3:]))
        for other in rolls.sample(others, 14):
            found.append("".join(words[:at] + [other] + words[at + 1:]))
            found.append("".join(words[:at] + [words[at], " ", other] + words[at + 1:]))
    return found


def one_row_otherwise(text, rows=()):
    """The text with one row left out, twice, or elsewhere, or one of these rows put in, at every place."""
    own = text.split("\n")
    found = []
    for at in range(len(own) + 1):
        found.extend("\n".join(own[:at] + [row] + own[at:]) for row in ("",) + tuple(rows))
        if at == len(own):
            continue
        rest = own[:at] + own[at + 1:]
        found.append("\n".join(rest))
        for to in range(len(own)):
            found.append("\n".join(rest[:to] + [own[at]] + rest[to:]))
            found.append("\n".join(own[:to] + [own[at]] + own[to:]))
    return found
