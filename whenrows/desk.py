"""A desk: sheets kept by names, which rows of text make, change and ask."""

from whenrows.deeds import cut, put
from whenrows.errors import NoName, NoRow, NoText
from whenrows.questions import refuse_no_column, refuse_unlike
from whenrows.rules import key_broken
from whenrows.sheets import cell_count, cut_at, sheet_of
from whenrows.stretches import refuse_no_stretch
from whenrows.texts import read_bound, read_facts, read_number, show_rows, show_sheet
from whenrows.timed import asked

# How many words follow the first one; FACTS and FACT count as one.
WORDS_BEHIND = {
    "sheet": 2, "put": 2, "cut": 5, "at": 2, "show": 1,
    "union": 3, "common": 3, "less": 3, "join": 3, "key": 2,
}
OF_TWO_SHEETS = ("union", "common", "less", "join")
LETTERS = "abcdefghijklmnopqrstuvwxyz"
MOST_LETTERS = 8


class Desk:
    """Keeps sheets by names, none at first."""

    def __init__(self):
        self.sheets = {}

    def say(self, row):
        """The answer to a row of text."""
        words = words_of(row)
        refuse_no_names(words, self.sheets)
        if words[0] in ("at", "show", "key"):
            return answer_about(self.sheets[words[1]], words)
        # The sheet is made before it is kept, so a row that is refused on the way changes nothing.
        self.sheets[words[1]] = sheet_to_keep(words, self.sheets)
        return "ok"


def words_of(row):
    """The words of a row that the desk knows, FACTS and FACT as one."""
    if not isinstance(row, str):
        raise NoRow("a row is a text")
    words = row.split(" ")
    if words[0] in ("sheet", "put"):
        words = row.split(" ", 2)
    if WORDS_BEHIND.get(words[0]) != len(words) - 1:
        raise NoRow(f"the desk knows no row such as {row!r}")
    return words


def refuse_no_names(words, sheets):
    may_be_new = words[0] == "sheet" or words[0] in OF_TWO_SHEETS
    names = words[1:] if words[0] in OF_TWO_SHEETS else words[1:2]
    for place, name in enumerate(names):
        if not is_name(name):
            raise NoName(f"{name!r} is no name")
        if name not in sheets and not (may_be_new and place == 0):
            raise NoName(f"no sheet stands by the name {name}")


def is_name(word):
    return word != "" and len(word) <= MOST_LETTERS and all([sign in LETTERS for sign in word])


def answer_about(sheet, words):
    """What a row that changes nothing asks of its sheet."""
    if words[0] == "show":
        return show_sheet(sheet)
    number = read_number(words[2])
    if words[0] == "at":
        return show_rows(cut_at(sheet, number))
    return key_answer(sheet, number)


def key_answer(sheet, column):
    refuse_no_column([column], cell_count(sheet))
    broken = key_broken(sheet, [column])
    return show_sheet(broken) if broken else "kept"


def sheet_to_keep(words, sheets):
    """The sheet for which the row's first name is to stand."""
    if words[0] == "sheet":
        return sheet_of(read_facts(words[2]))
    if words[0] == "put":
        return sheet_with_fact(sheets[words[1]], words[2])
    if words[0] == "cut":
        return sheet_cut(sheets[words[1]], words[2:])
    return answer_of_two(words[0], sheets[words[2]], sheets[words[3]])


def sheet_with_fact(sheet, text):
    facts = read_facts(text)
    if len(facts) != 1:
        raise NoText("just one fact is put")
    fact = facts[0]
    return put(sheet, fact[0], fact[1], fact[2])


def sheet_cut(sheet, words):
    column = read_number(words[0])
    value = read_number(words[1])
    start = read_bound(words[2])
    end = read_bound(words[3])
    refuse_no_stretch(start, end)
    refuse_no_column([column], cell_count(sheet))
    return cut(sheet, ("is", column, value), start, end)


def answer_of_two(kind, one, other):
    # A sheet without rows goes with one of any width.
    if kind != "join" and one and other:
        refuse_unlike(cell_count(one), cell_count(other))
    return asked((kind, ("table", "one"), ("table", "other")), {"one": one, "other": other})
