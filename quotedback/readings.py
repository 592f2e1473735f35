"""Texts read as trees."""

from quotedback.errors import Unreadable
from quotedback.names import KEY_WORDS, NAME_SIGNS
from quotedback.scanner import Scanner
from quotedback.scriptreading import Reader
from quotedback.sumreading import sum_at
from quotedback.texts import show_script, show_word
from quotedback.wordreading import pieces_at

UNQUOTED_SIGNS = NAME_SIGNS + "./_-,:+@"


def read_word(text):
    reader = Reader(text, text)
    word = pieces_at(reader)
    if word == [] or not reader.is_at_end():
        raise Unreadable(text)
    return word


def read_sum(text):
    scanner = Scanner(text, text)
    tree = sum_at(scanner)
    if not scanner.is_at_end():
        raise Unreadable(text)
    return tree


def read_script(text):
    reader = Reader(text, text)
    script = reader.script()
    if not reader.is_at_end():
        raise Unreadable(text)
    return script


def quote(text):
    if "'" in text:
        return [("wide", [("plain", text)])]
    return [("held", text)]


def quote_all(texts):
    return " ".join([text if is_plain(text) else show_word(quote(text)) for text in texts])


def is_plain(text):
    """Returns True if a text comes to itself as a word without quotes."""
    return text != "" and text not in KEY_WORDS and all([sign in UNQUOTED_SIGNS for sign in text])


def is_shown(text):
    try:
        return tidied(text) == text
    except Unreadable:
        return False


def tidied(text):
    return show_script(read_script(text))
