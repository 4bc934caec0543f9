"""Words, numbers, names and signs as they are written and read again; what is not written so is refused with NoRow."""

from redquill.errors import NoRow

FIGURES = "0123456789"
SMALL_LETTERS = "abcdefghijklmnopqrstuvwxyz"
NONE = "-"
# A text of the program never holds the percent sign itself.
PERCENT = 37
MOST_LETTERS = 8
MOST_FIGURES = 12
# Names are held to no bound of figures, but nothing is promised of whole numbers beyond these.
MOST_FIGURES_IN_NAMES = 20
MOST_PUT = 60
MOST_OLD = 300
MOST_NOTED = 40


def check_form(good):
    if not good:
        raise NoRow()


def written_signs(signs):
    # Backslashes first, or those that write a line feed would be written twice.
    return signs.replace("\\", "\\\\").replace("\n", "\\n")


def written_name(name):
    return ".".join([str(part) for part in name])


def written_list(words, between):
    if words == []:
        return NONE
    return between.join(words)


def written_names(names, between):
    return written_list([written_name(name) for name in names], between)


def written_dress(word):
    if word == "":
        return NONE
    return word


def words_of(row, how_many):
    # The last word is all that is left: where it may hold no blank, its own form refuses it.
    words = row.split(" ", how_many - 1)
    check_form(len(words) == how_many)
    return words


def is_made_of(word, signs, most):
    return 1 <= len(word) <= most and all([sign in signs for sign in word])


def letters_of(word):
    check_form(is_made_of(word, SMALL_LETTERS, MOST_LETTERS))
    return word


def dress_of(word):
    if word == NONE:
        return ""
    return letters_of(word)


def figures_of(word, most):
    check_form(is_made_of(word, FIGURES, most))
    check_form(word[0] != "0" or word == "0")
    return int(word)


def number_of(word):
    return figures_of(word, MOST_FIGURES)


def number_in_name(word):
    return figures_of(word, MOST_FIGURES_IN_NAMES)


def name_of(word):
    parts = word.split(".")
    check_form(len(parts) == 2)
    name = (letters_of(parts[0]), number_in_name(parts[1]))
    check_form(name[1] > 0)
    return name


def slot_of(word):
    parts = word.split(".")
    check_form(len(parts) == 3)
    # Whether the slot is there at all is for the asker to see: so a pen may be none, and a number be 0.
    pen = "" if parts[0] == "" else letters_of(parts[0])
    return (pen, number_in_name(parts[1]), number_in_name(parts[2]))


def check_signs(text):
    check_form(all([" " <= sign <= "~" and ord(sign) != PERCENT for sign in text]))


def signs_of(words):
    check_signs(words)
    # Two backslashes never begin within a written line feed, so what lies between them can be read by itself.
    parts = [part.replace("\\n", "\n") for part in words.split("\\\\")]
    check_form(not any(["\\" in part for part in parts]))
    return "\\".join(parts)


def put_signs_of(words):
    signs = signs_of(words)
    check_form(1 <= len(signs) <= MOST_PUT)
    return signs


def old_signs_of(words):
    signs = signs_of(words)
    check_form(len(signs) <= MOST_OLD)
    return signs


def noted_words_of(words):
    check_signs(words)
    check_form(1 <= len(words) <= MOST_NOTED)
    return words


PARTS = {
    "KEY": letters_of,
    "PEN": letters_of,
    "NAME": name_of,
    "NOTE": name_of,
    "AT": number_of,
    "TO": number_of,
    "GOAL": number_of,
    "NUMBER": number_of,
    "BITS": number_of,
    "WORD": dress_of,
    "OLD": old_signs_of,
    "SIGNS": put_signs_of,
    "WORDS": noted_words_of,
}


def part_of(kind, word):
    return PARTS[kind](word)
