"""The words of a question, one by one."""

from tablestore.errors import BadValue
from tablestore.shapes import NO_NAMES, is_letter, is_name
from tablestore.values import FIGURES, read_value

# The longer ones stand ahead of those that they begin with: a word is as long as it can be.
SIGNS = ("<>", "<=", ">=", "<", ">", "=", ",", ".", "(", ")")


# A tuple of its kind, its value, and the places of its first sign and behind its last one.
def word_at(text, place):
    start = place
    while text[start:start + 1] == " ":
        start += 1
    if start >= len(text):
        return ("end", None, len(text), len(text))
    sign = text[start]
    if is_letter(sign):
        return letters_at(text, start)
    if sign in FIGURES or sign == "-":
        return value_at(text, start, "number", figures_end(text, start))
    if sign == '"':
        return value_at(text, start, "text", text_end(text, start))
    return sign_at(text, start)


def no_word(start):
    return ("bad", None, start, start)


def letters_at(text, start):
    end = start
    while end < len(text) and is_letter(text[end]):
        end += 1
    letters = text[start:end]
    # A key is just what could be a name and is not let be one.
    if letters in NO_NAMES:
        return ("key", letters, start, end)
    return ("name", letters, start, end) if is_name(letters) else no_word(start)


def value_at(text, start, kind, end):
    try:
        return (kind, read_value(text[start:end]), start, end)
    except BadValue:
        return no_word(start)


def figures_end(text, start):
    end = start + 1
    while end < len(text) and text[end] in FIGURES:
        end += 1
    return end


# Where the end is missed, all that is left is taken, and that writes no value.
def text_end(text, start):
    end = text.find('"', start + 1)
    while end >= 0 and text[end + 1:end + 2] == '"':
        end = text.find('"', end + 2)
    return end + 1 if end >= 0 else len(text)


def sign_at(text, start):
    for sign in SIGNS:
        if text.startswith(sign, start):
            return ("sign", sign, start, start + len(sign))
    return no_word(start)
