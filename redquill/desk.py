"""A desk: papers kept by words, told what to do by rows of text, with an answer to each."""

from redquill.choices import by_pen, in_stretch, let_stand_all, outcome, wipe_all
from redquill.errors import NoRow
from redquill.held import against
from redquill.notes import Margin
from redquill.paper import Paper
from redquill.paragraphs import join
from redquill.pour import clashes, poured
from redquill.readings import text_of
from redquill.shown import shown
from redquill.wire import read, written
from redquill.words import (
    check_form,
    letters_of,
    part_of,
    words_of,
    written_list,
    written_name,
    written_names,
    written_signs,
)

DONE = "ok"


def new_paper(parts):
    return Paper(parts["OLD"])


def poured_paper(parts):
    return poured(parts["Q"].paper, parts["R"].paper)


def held_paper(parts):
    old = text_of(parts["Q"].paper.view())
    new = text_of(parts["R"].paper.view())
    return against(old, new, parts["PEN"])


def do_put(parts):
    return written_name(parts["P"].paper.put(parts["PEN"], parts["AT"], parts["SIGNS"]))


def do_strike(parts):
    return written_name(parts["P"].paper.strike(parts["PEN"], parts["AT"], parts["TO"]))


def do_dress(parts):
    return written_name(parts["P"].paper.dress(parts["PEN"], parts["AT"], parts["TO"], parts["WORD"]))


def do_move(parts):
    return written_name(parts["P"].paper.move(parts["PEN"], parts["AT"], parts["TO"], parts["GOAL"]))


def do_part(parts):
    return written_name(parts["P"].paper.part(parts["PEN"], parts["AT"]))


def do_join(parts):
    return written_name(join(parts["P"].paper, parts["PEN"], parts["NUMBER"]))


def do_back(parts):
    parts["P"].paper.take_back(parts["PEN"], parts["NAME"])
    return DONE


def picker(parts):
    if "PEN" in parts:
        return by_pen(parts["PEN"])
    if "AT" in parts:
        return in_stretch(parts["P"].paper, parts["AT"], parts["TO"])
    return None


def stand_many(parts):
    return written_names(let_stand_all(parts["P"].paper, picker(parts)), " ")


def wipe_many(parts):
    return written_names(wipe_all(parts["P"].paper, picker(parts)), " ")


def stand_one(parts):
    parts["P"].paper.let_stand(parts["NAME"])
    return DONE


def wipe_one(parts):
    parts["P"].paper.wipe(parts["NAME"])
    return DONE


def tell_view(parts):
    return written_signs(text_of(parts["P"].paper.view()))


def tell_choice(parts):
    return written_signs(text_of(outcome(parts["P"].paper, parts["BITS"])))


def mark_of(before, after):
    if before and after:
        return "="
    if before:
        return "-"
    return "+"


def tell_shown(parts):
    return "".join([mark_of(row[3], row[4]) + written_signs(row[2]) for row in shown(parts["P"].paper)])


def tell_state(parts):
    return parts["P"].paper.state(parts["NAME"])


def tell_clashes(parts):
    told = clashes(parts["Q"].paper, parts["R"].paper)
    return written_list([written_names(clash, " ") for clash in told], ", ")


def tell_written(parts):
    return written(parts["P"].paper)


def do_note(parts):
    return written_name(parts["P"].note(parts["PEN"], parts["AT"], parts["TO"], parts["WORDS"]))


def do_answer(parts):
    return written_name(parts["P"].answer(parts["PEN"], parts["NOTE"], parts["WORDS"]))


def written_answer(answer):
    return written_name(answer[0]) + " " + answer[1] + written_answers(answer[2])


def written_answers(answers):
    if answers == []:
        return ""
    told = " | ".join([written_answer(answer) for answer in answers])
    return " {" + told + "}"


def written_note(note):
    numbers = written_list([str(number) for number in note[1]], ",")
    return " ".join([written_name(note[0]), numbers, note[2]]) + written_answers(note[3])


def tell_notes(parts):
    return written_list([written_note(note) for note in parts["P"].told()], " | ")


# A form's small words stand in a row as they are, its others for parts of that kind; KEY is the word that will keep
# a paper, and P, Q and R are words that keep one already.
MAKING = {
    "new KEY OLD": new_paper,
    "pour KEY Q R": poured_paper,
    "against KEY PEN Q R": held_paper,
}

# A row is of the first form that it fits: a last part takes in all that follows, so the forms of stand and wipe with
# a small word behind P come ahead of the one with NAME.
DEEDS = {
    "put P PEN AT SIGNS": do_put,
    "strike P PEN AT TO": do_strike,
    "dress P PEN AT TO WORD": do_dress,
    "move P PEN AT TO GOAL": do_move,
    "part P PEN AT": do_part,
    "join P PEN NUMBER": do_join,
    "back P PEN NAME": do_back,
    "stand P all": stand_many,
    "stand P by PEN": stand_many,
    "stand P in AT TO": stand_many,
    "stand P NAME": stand_one,
    "wipe P all": wipe_many,
    "wipe P by PEN": wipe_many,
    "wipe P in AT TO": wipe_many,
    "wipe P NAME": wipe_one,
    "view P": tell_view,
    "choice P BITS": tell_choice,
    "shown P": tell_shown,
    "state P NAME": tell_state,
    "clash Q R": tell_clashes,
    "write P": tell_written,
    "note P PEN AT TO WORDS": do_note,
    "answer P PEN NOTE WORDS": do_answer,
    "notes P": tell_notes,
}


def fits(form, row):
    kinds = form.split(" ")
    words = row.split(" ", len(kinds) - 1)
    if len(words) != len(kinds):
        return False
    return all([kind == word for kind, word in zip(kinds, words) if kind.islower()])


class Desk:
    def __init__(self):
        # A margin knows its paper, so both are kept by the one word.
        self.margins = {}

    def say(self, row):
        check_form(isinstance(row, str))
        if row.startswith("read "):
            return self.read_in(row)
        for form, made in MAKING.items():
            if fits(form, row):
                parts = self.parts_in(form, row)
                return self.keep(parts["KEY"], made(parts))
        for form, deed in DEEDS.items():
            if fits(form, row):
                return deed(self.parts_in(form, row))
        raise NoRow()

    def keep(self, word, paper):
        self.margins[word] = Margin(paper)
        return DONE

    def read_in(self, row):
        parts = words_of(row, 2)[1].partition("\n")
        word = letters_of(parts[0])
        check_form(parts[1] == "\n")
        return self.keep(word, read(parts[2]))

    def parts_in(self, form, row):
        kinds = form.split(" ")
        words = words_of(row, len(kinds))
        return dict([(kind, self.part_in(kind, word)) for kind, word in zip(kinds, words) if not kind.islower()])

    def part_in(self, kind, word):
        if kind in ("P", "Q", "R"):
            check_form(word in self.margins)
            return self.margins[word]
        return part_of(kind, word)
