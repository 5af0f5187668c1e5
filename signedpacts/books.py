"""Written books: deeds as lines of text, and back ([94])."""
from signedpacts.debts import is_pair
from signedpacts.drafts import rested_on
from signedpacts.errors import BadLine
from signedpacts.parties import PARTIES
from signedpacts.words import is_number

GREATEST = 10 ** 60 - 1
SMALL_LETTERS = "abcdefghijklmnopqrstuvwxyz"


def label_text(label):
    """A label as it is written."""
    number, party = label
    return f"{number}{party}"


def list_text(words):
    """A list as it is written."""
    return ",".join(words) if words else "-"


def amendment_line(amendment):
    """The line of an amendment."""
    labels = list_text([label_text(one) for one in rested_on(amendment)])
    line = f"amend {amendment[0]} {label_text(amendment[1])} {labels}"
    return line if amendment[0] == "strike" else f"{line} {amendment[3]}"


def deed_line(deed):
    """The line of a deed."""
    word = deed[0]
    if word == "amend":
        return amendment_line(deed[1])
    if word == "move":
        return f"move {deed[1]} {deed[2]} {deed[3][0]} {deed[3][1]}"
    if word == "paper":
        answering = list_text([str(number) for number in deed[2]])
        answered = list_text([str(number) for number in deed[3]])
        contested = "-" if deed[4] is None else deed[4]
        return f"paper {deed[1]} {answering} {answered} {contested}"
    return " ".join([str(told) for told in deed])


def write_deeds(deeds):
    """A line for each deed."""
    return tuple([deed_line(deed) for deed in deeds])


# A reader returns what a word writes, alone in a tuple, or None if the word cannot stand there.

def number_in(word):
    """Reads a number that is not below 0."""
    return (int(word),) if is_number(word, GREATEST) else None


def rank_in(word):
    """Reads a number that may be below 0."""
    if word[:1] != "-":
        return number_in(word)
    return (-int(word[1:]),) if is_number(word[1:], GREATEST) and word != "-0" else None


def label_in(word):
    """Reads a label."""
    if word == "" or word[-1] not in PARTIES or word[0] == "0" or not is_number(word[:-1], GREATEST):
        return None
    return ((int(word[:-1]), word[-1]),)


def behind_in(word):
    """Reads a label or None."""
    return (None,) if word == "-" else label_in(word)


def contested_in(word):
    """Reads the number of a deed or None."""
    return (None,) if word == "-" else number_in(word)


def list_in(word, reader):
    """Reads a list whose members the reader reads."""
    found = [] if word == "-" else [reader(one) for one in word.split(",")]
    return None if None in found else (tuple([told[0] for told in found]),)


def versions_in(word):
    """Reads 1 to 4 labels."""
    found = list_in(word, label_in)
    return found if found is not None and 1 <= len(found[0]) <= 4 else None


def numbers_in(word):
    """Reads a list of numbers."""
    return list_in(word, number_in)


def name_in(word):
    """Reads the name of a signed pact."""
    return (word,) if 1 <= len(word) <= 12 and all([letter in SMALL_LETTERS for letter in word]) else None


def mover_in(word):
    """Reads a party or the world."""
    return (word,) if word == "world" or (len(word) == 1 and word in PARTIES) else None


def pair_in(word):
    """Reads two different parties."""
    return (word,) if is_pair(word) else None


def text_in(word):
    """Reads any text."""
    return (word,)


READERS = {
    "LABEL": label_in, "BEHIND": behind_in, "VERSIONS": versions_in, "TEXT": text_in, "NAME": name_in,
    "MOVER": mover_in, "NUMBER": number_in, "PAIR": pair_in, "RANK": rank_in, "NUMBERS": numbers_in,
    "CONTESTED": contested_in,
}
FORMS = (
    ("amend", "add", "LABEL", "BEHIND", "TEXT"),
    ("amend", "change", "LABEL", "VERSIONS", "TEXT"),
    ("amend", "strike", "LABEL", "LABEL"),
    ("sign", "NAME"),
    ("move", "NAME", "MOVER", "take", "NUMBER"),
    ("move", "NAME", "MOVER", "rounds", "NUMBER"),
    ("pay", "PAIR", "NUMBER"),
    ("set", "off"),
    ("paper", "RANK", "NUMBERS", "NUMBERS", "CONTESTED"),
    ("rule",),
)


def told_by(words, form):
    """What the words tell, one thing for each word, or None if they do not have the form."""
    if len(words) != len(form):
        return None
    found = []
    for word, wanted in zip(words, form):
        if wanted in READERS:
            reader = READERS[wanted]
            told = reader(word)
        else:
            told = (word,) if word == wanted else None
        if told is None:
            return None
        found.extend(told)
    return found


def deed_of(told):
    """The deed that the words of a line tell."""
    if told[0] == "amend":
        return "amend", tuple(told[1:])
    if told[0] == "move":
        return (*told[:3], tuple(told[3:]))
    return ("set off",) if told[0] == "set" else tuple(told)


def read_deeds(lines):
    """The deeds that the lines write."""
    deeds = []
    for number, line in enumerate(lines):
        # The text of an amendment is all that stands behind the fourth space. No other word may have a space in it.
        words = line.split(" ", 4)
        found = [told for told in [told_by(words, form) for form in FORMS] if told is not None]
        if not found:
            raise BadLine(number)
        deeds.append(deed_of(found[0]))
    return tuple(deeds)
