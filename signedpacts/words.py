"""The words and signs of written pacts ([36]): where each begins, and of which kind it is."""
from signedpacts.parties import MARKS, PARTIES

WORD_CHARACTERS = "abcdefghijklmnopqrstuvwxyzABCDEFGHIJKLMNOPQRSTUVWXYZ0123456789"
DIGITS = "0123456789"
SIGNS = "()[]|,."


def is_number(text, greatest):
    """True if the text is a number without a leading zero, and at most the greatest one."""
    # Long texts are refused unread: Python itself does not read numbers with thousands of digits.
    if text == "" or len(text) > len(str(greatest)) or (len(text) > 1 and text[0] == "0"):
        return False
    return all([character in DIGITS for character in text]) and int(text) <= greatest


def is_transfer(word):
    """True if the word is two different parties and an amount."""
    if len(word) < 3 or word[0] not in PARTIES or word[1] not in PARTIES or word[0] == word[1]:
        return False
    return is_number(word[2:], 10 ** 60)


def kind_of_word(word):
    """What a word is: "transfer", "owner", "event", "count", or "wrong"."""
    if is_transfer(word):
        return "transfer"
    if len(word) == 1 and word in PARTIES:
        return "owner"
    if len(word) == 1 and word in MARKS:
        return "event"
    return "count" if is_number(word, 100) else "wrong"


def tokens_of(text):
    """The tokens of the text, each as a tuple (index, kind, text); a sign is its own kind."""
    found = []
    at = 0
    while at < len(text):
        start = at
        at += 1
        if text[start] in WORD_CHARACTERS:
            while at < len(text) and text[at] in WORD_CHARACTERS:
                at += 1
            found.append((start, kind_of_word(text[start:at]), text[start:at]))
        elif text[start] in SIGNS:
            found.append((start, text[start], text[start]))
        elif text[start] != " ":
            found.append((start, "wrong", text[start]))
    return found
