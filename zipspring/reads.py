"""Texts read as terms and books [6]."""

from zipspring.books import is_book
from zipspring.errors import NoText
from zipspring.terms import MOST_IN_ALL, is_name, is_term

FIGURES = ("0", "1", "2", "3", "4", "5", "6", "7", "8", "9")
FEWEST_WORDS_OF_EQUATION = 3


def take_part(read):
    """Takes the first of the terms that are read, which stands last among them."""
    if not read:
        raise NoText("words for a term are missing")
    return read.pop()


def begun_term(word, read):
    """The term that begins with the word; its parts are taken from the terms read behind it."""
    if is_name(word):
        return ("row", word)
    if word in FIGURES:
        return ("sign", int(word), take_part(read))
    if word == "behind":
        return ("behind", take_part(read))
    if word == "zip":
        one = take_part(read)
        return ("zip", one, take_part(read))
    raise NoText(f"no word of a term: {word}")


def read_words(words):
    """The term that is written by the words."""
    # Each term within a term begins with a word of its own, so that more words than this write none.
    if len(words) > MOST_IN_ALL:
        raise NoText("too many words for a term")
    read = []
    # From the last word on, so that the parts of a term are there when its own word is come to.
    for word in words[::-1]:
        begun = begun_term(word, read)
        read.append(begun)
    term = take_part(read)
    if read or not is_term(term):
        raise NoText("more words than one term has, or too many terms within one another")
    return term


def read_term(text):
    return read_words(text.split(" "))


def read_equation(row):
    words = row.split(" ")
    if len(words) < FEWEST_WORDS_OF_EQUATION or words[1] != "=":
        raise NoText(f"no equation: {row}")
    return (words[0], read_words(words[2:]))


def read_book(text):
    if text == "":
        return ()
    book = tuple([read_equation(row) for row in text.split("\n")])
    if not is_book(book):
        raise NoText("too many equations, a name that is none, twice there or without equation")
    return book
