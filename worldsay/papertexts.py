"""Papers written as texts, and texts read as papers."""

from worldsay.words import Words, is_figures

MOST_FIGURES = 9
WORDS_OF_TRUTH = {"yes": True, "no": False}


def shown_paper(paper):
    """The texts that write a paper, one for each row."""
    return [shown_row(row) for row in paper]


def shown_row(row):
    """The text that writes a row."""
    ranks = ",".join([str(rank) for rank in row[3]])
    choice = "-" if row[4] is None else str(row[4])
    return " ".join([str(row[0]), str(row[1]), "yes" if row[2] else "no", ranks if ranks != "" else "-", choice])


def read_paper(texts):
    """The paper that a list of texts writes, whatever claims and ranks it tells."""
    return tuple([read_row(Words(number, text)) for number, text in enumerate(texts)])


def read_row(words):
    """The row that a text's words write."""
    number = int(words.taken(lambda word: is_figures(word, MOST_FIGURES)))
    point = int(words.taken(lambda word: is_figures(word, MOST_FIGURES)))
    truth = WORDS_OF_TRUTH[words.taken(lambda word: word in WORDS_OF_TRUTH)]
    ranks = words.taken(lambda word: word == "-" or all([is_figures(text, MOST_FIGURES) for text in word.split(",")]))
    choice = words.taken(lambda word: word == "-" or is_figures(word, MOST_FIGURES))
    words.finish()
    numbers = () if ranks == "-" else tuple([int(text) for text in ranks.split(",")])
    return (number, point, truth, numbers, None if choice == "-" else int(choice))
