"""Words expanded in a room: to signs, to fields, to one text."""

from quotedback.copies import fresh
from quotedback.errors import InvalidTree
from quotedback.expanding import Expansion, joined_pattern, joined_text
from quotedback.rooms import check_room
from quotedback.splitting import cut_to_fields, with_paths
from quotedback.trees import is_word


def signs(word, room, answers):
    check_words([word])
    check_room(room)
    return Expansion(room, answers).signs_of(word, False)


def fields(word, room, answers):
    check_words([word])
    check_room(room)
    return word_fields(word, Expansion(room, answers), room[4])


def all_fields(words, room, answers):
    check_words(words)
    check_room(room)
    expansion = Expansion(room, answers)
    return [field for word in words for field in word_fields(word, expansion, room[4])]


def joined(word, room, answers):
    _, found = expanded(word, room, answers)
    return joined_text(found)


def pattern(word, room, answers):
    _, found = expanded(word, room, answers)
    return joined_pattern(found)


def names_behind(word, room, answers):
    expansion, _ = expanded(word, room, answers)
    return expansion.names


def check_words(words):
    for word in words:
        if not is_word(word):
            raise InvalidTree(fresh(word))


def expanded(word, room, answers):
    """Returns the expansion behind a word, which may be empty, and the signs of the word."""
    check_words([word] if word != [] else [])
    check_room(room)
    expansion = Expansion(room, answers)
    return expansion, expansion.signs_of(word, False)


def word_fields(word, expansion, paths):
    found = expansion.signs_of(word, False)
    return with_paths(cut_to_fields(found, expansion.separators()), paths)
