"""Forms and tables: what is one, and the signs that a table has."""

from dots.cells import is_raised
from dots.errors import NoForm, NoLetter, NoMark, Twice

SMALL_LETTERS = "abcdefghijklmnopqrstuvwxyz"
FIGURES = "0123456789"
ALL_PLACES = "wbme"
MOST_FORMS = 24
MOST_MARK_CELLS = 2
# NoMark counts the figures as a fifth mark, behind the marks 0 to 3.
NUMBER_OF_FIGURES = 4


def are_raised(cells, least, most):
    """Whether these are least to most cells, each with a dot."""
    return least <= len(cells) <= most and all([is_raised(cell) for cell in cells])


def are_letters(text):
    """Whether a text can be the letters of a form."""
    return 1 <= len(text) <= 6 and all([sign in SMALL_LETTERS for sign in text])


def are_places(text):
    """Whether a text can be the places of a form."""
    return text != "" and text == "".join([place for place in ALL_PLACES if place in text])


def is_form(form):
    """Whether a tuple of a text, a tuple of whole numbers and a text is a form."""
    return are_letters(form[0]) and are_raised(form[1], 1, 4) and are_places(form[2])


def letters_of(forms):
    """The letters that stand in forms, sorted, each once."""
    return "".join(sorted(set("".join([form[0] for form in forms]))))


def check_forms(forms):
    """Refuse forms of a wrong count, and what is no form."""
    if len(forms) == 0:
        raise NoForm(0)
    if len(forms) > MOST_FORMS:
        raise NoForm(MOST_FORMS)
    for number, form in enumerate(forms):
        if not is_form(form):
            raise NoForm(number)


def check_twice(forms):
    """Refuse a form with the letters and the cells of an earlier one."""
    seen = {}
    for number, form in enumerate(forms):
        entry = (form[0], form[1])
        if entry in seen:
            raise Twice(number)
        seen[entry] = True


def check_marks(marks, figures):
    """Refuse marks and figures that are none, or that don't go together."""
    for number, mark in enumerate(marks):
        if not are_raised(mark, 0, MOST_MARK_CELLS):
            raise NoMark(number)
    if not are_raised(figures, 0, len(FIGURES)):
        raise NoMark(NUMBER_OF_FIGURES)
    if marks[1] != () and marks[0] == ():
        raise NoMark(1)
    for number in (2, 3):
        if (marks[number] == ()) != (figures == ()):
            raise NoMark(number)


def check_letters(forms):
    """Refuse a letter without a form of its own: there a text might have no writing."""
    alone = [form[0] for form in forms if form[2] == ALL_PLACES]
    for letter in letters_of(forms):
        if letter not in alone:
            raise NoLetter(letter)


def made_table(forms, marks, figures):
    """The table of these forms, marks and figures, or the first refusal that is due."""
    table = (tuple(forms), tuple([tuple(mark) for mark in marks]), tuple(figures))
    check_forms(table[0])
    check_twice(table[0])
    check_marks(table[1], table[2])
    check_letters(table[0])
    return table


def signs_of(table):
    """The signs of a table as a text, sorted, each once."""
    letters = letters_of(table[0])
    great = "" if table[1][0] == () else letters.upper()
    figures = FIGURES[:len(table[2])]
    return "".join(sorted(" " + figures + great + letters))


def cells_in(table):
    """All cells that stand in a table, some perhaps several times."""
    cells = list(table[2])
    for mark in table[1]:
        cells.extend(mark)
    for form in table[0]:
        cells.extend(form[1])
    return cells


def is_text(table, text):
    """Whether a text has signs of the table alone."""
    signs = signs_of(table)
    return all([sign in signs for sign in text])
