"""Forms of lines and rows: words in small letters stand as they are, words in capitals for others."""

from paidspan.amounts import only_figures

MOST_FIGURES_OF_NUMBER = 9


def is_number(word):
    """Tell whether a word is a number in at most nine figures, without noughts ahead."""
    if not only_figures(word) or len(word) > MOST_FIGURES_OF_NUMBER:
        return False
    return word == "0" or not word.startswith("0")


def fits_word(kind, word):
    """Tell whether a word can stand where a form has this one: N stands for a number, other capitals for any word."""
    if kind == "N":
        return is_number(word)
    return kind.isupper() or word == kind


def fits_form(form, words):
    """Tell whether words are written by a form."""
    kinds = form.split(" ")
    return len(words) == len(kinds) and all([fits_word(kind, word) for kind, word in zip(kinds, words)])
