"""Papers as texts: how one is shown, with a sum at its end, and how just such a text is read again."""

from oneroom.errors import NoPaper, NoRow
from oneroom.rows import row_of

# The number that stands in the sum for a row's word.
WORDS = {"paper": 1, "take": 2, "put": 3}

MOST_FIGURES = 60


def paper_text(paper):
    lines = lines_of(paper)
    shown = [" ".join([str(word) for word in line]) for line in lines]
    total = sum_of(numbers_in(lines))
    shown.append(f"sum {total}")
    return "\n".join(shown)


# Of each row that is shown, the sum's own left out, the tuple of its word and its numbers.
def lines_of(paper):
    lines = [("paper", paper[0], paper[1])]
    lines.extend([line_of(row_of(told).told()) for told in paper[2]])
    return lines


def line_of(told):
    if told[0] == "put":
        return told[:2] + told[2]
    return told


def numbers_in(lines):
    numbers = []
    for line in lines:
        numbers.append(WORDS[line[0]])
        numbers.extend(line[1:])
    return numbers


def sum_of(numbers):
    total = 0
    for number in numbers:
        total = (total * 31 + number + 7) % 1000003
    return total


# Only what would be shown as just this text counts, so it is shown again: that looks at the sum's row, too.
def read_paper(text):
    if not isinstance(text, str):
        raise NoPaper("no text")
    paper = paper_in([row.split(" ") for row in text.split("\n")])
    if paper_text(paper) != text:
        raise NoPaper("not as this paper is shown")
    return paper


def paper_in(lines):
    lengths = numbers_behind(lines[0])
    if len(lengths) != 2:
        raise NoPaper("not two lengths")
    return lengths + (tuple([row_in(words) for words in lines[1:-1]]),)


def row_in(words):
    numbers = numbers_behind(words)
    told = (words[0],) + numbers
    if words[0] == "put":
        told = ("put",) + numbers[:1] + (numbers[1:],)
    try:
        return row_of(told).told()
    except NoRow:
        raise NoPaper("a row that is none") from None


def numbers_behind(words):
    numbers = tuple([read_number(word) for word in words[1:]])
    if None in numbers:
        raise NoPaper("a word that is no number")
    return numbers


# None where the word is no number, or not written as numbers are shown.
def read_number(word):
    figures = word[1:] if word.startswith("-") else word
    if len(figures) > MOST_FIGURES or not are_figures(figures):
        return None
    number = int(word)
    # Noughts ahead and a nought with a - ahead of it come out otherwise.
    if str(number) != word:
        return None
    return number


# Not isdigit: it takes signs for figures that int doesn't.
def are_figures(word):
    return len(word) > 0 and all([sign in "0123456789" for sign in word])
