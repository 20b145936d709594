"""A desk: rows that ask, and what a new board answers."""

from pegwishes.boards import Board
from pegwishes.cells import cells
from pegwishes.errors import (
    BadPath, BadRow, BadStyle, BadWish, Clash, Known, NoFigure, NoSheet, NoStyle, NoWish, TooGreat,
)
from pegwishes.firm import held_by, ways
from pegwishes.fracs import frac_text
from pegwishes.measures import gap
from pegwishes.paths import is_name
from pegwishes.roots import root_text
from pegwishes.texts import deed_or_none, sheet_text
from pegwishes.whole import number_text
from pegwishes.words import things_in

NONE = "-"
# The signs of what stands behind the word of a row, as words.py has them; put's has a deed.
SIGNS = {
    "new": "A",
    "drop": "A",
    "copy": "AA",
    "undo": "",
    "redo": "",
    "names": "",
    "place": "AP",
    "ways": "AP",
    "held": "AP",
    "gap": "APP",
    "cells": "A",
    "text": "A",
}


def answers(text):
    """The answers to the rows of a text, one behind the other."""
    asked = _rows_in(text)
    board = Board()
    return [_answer(board, row) for row in asked]


def _rows_in(text):
    """The rows of a text as lists: the word, and what stands behind it."""
    if text == "":
        return []
    asked = []
    for at, line in enumerate(text.split("\n")):
        row = _row_in(line)
        if row is None:
            raise BadRow(at)
        asked.append(row)
    return asked


def _row_in(line):
    """The word of a row and what stands behind it, None where it is not so written."""
    word, *words = line.split(" ")
    if word == "put":
        return _put_in(words)
    if word not in SIGNS:
        return None
    things = things_in(SIGNS[word], words)
    return None if things is None else [word, *things]


def _put_in(words):
    """The row of a put, of the words behind its first one."""
    if len(words) == 0 or not is_name(words[0]):
        return None
    deed = deed_or_none(" ".join(words[1:]))
    return None if deed is None else ["put", words[0], deed]


def _answer(board, row):
    """What a board answers to a row."""
    word, *things = row
    action = ACTIONS[word]
    try:
        return action(board, *things)
    except Clash as caught:
        return " ".join(["refused", "Clash", *caught.lot])
    except BadPath:
        return "refused BadPath"
    except BadStyle:
        return "refused BadStyle"
    except BadWish:
        return "refused BadWish"
    except Known:
        return "refused Known"
    except NoFigure:
        return "refused NoFigure"
    except NoSheet:
        return "refused NoSheet"
    except NoStyle:
        return "refused NoStyle"
    except NoWish:
        return "refused NoWish"
    except TooGreat:
        return "refused TooGreat"


def _new(board, name):
    board.new(name)
    return "done"


def _drop(board, name):
    board.drop(name)
    return "done"


def _copy(board, name, other):
    board.copy(name, other)
    return "done"


def _put(board, name, deed):
    board.put(name, deed)
    return "done"


def _undo(board):
    return _yes_or_no(board.undo())


def _redo(board):
    return _yes_or_no(board.redo())


def _names(board):
    return _listed(board.names())


def _place(board, name, path):
    x, y = board.sheet(name).place(path)
    return frac_text(x) + " " + frac_text(y)


def _ways(board, name, path):
    return number_text(ways(board.sheet(name), path))


def _held(board, name, path):
    return _listed(held_by(board.sheet(name), path))


def _gap(board, name, one, other):
    return root_text(gap(board.sheet(name), one, other))


def _cells(board, name):
    return "/".join(cells(board.sheet(name)))


def _text(board, name):
    text = sheet_text(board.sheet(name))
    return NONE if text == "" else text.replace("\n", " / ")


def _yes_or_no(truth):
    """The word of a truth."""
    return "yes" if truth else "no"


def _listed(words):
    """Words by blanks, or what stands for none."""
    return NONE if len(words) == 0 else " ".join(words)


ACTIONS = {
    "new": _new,
    "drop": _drop,
    "copy": _copy,
    "put": _put,
    "undo": _undo,
    "redo": _redo,
    "names": _names,
    "place": _place,
    "ways": _ways,
    "held": _held,
    "gap": _gap,
    "cells": _cells,
    "text": _text,
}
