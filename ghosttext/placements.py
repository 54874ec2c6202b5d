"""Lists of all words in which each word stands before the one above it.

The words are the keys of a dict `above`; its values are the word above each one, or None.
"""

from math import factorial


def count_placements(above):
    """Return the number of these lists."""
    return _count_of_sizes(_sizes(above))


def nth_placement(above, index):
    """Return the list with this index among all of them in ascending order."""
    placed = []
    rest = above
    while len(rest) > 0:
        # The index that is left is the one among the lists that begin with the word.
        for word, many in _counts_by_first(rest):
            if index < many:
                break
            index -= many
        placed.append(word)
        rest = _without(rest, word)
    return placed


def placement_rank(above, placed):
    """Return the index of one of the lists."""
    rank = 0
    rest = above
    for word in placed:
        rank += sum([many for other, many in _counts_by_first(rest) if other < word])
        rest = _without(rest, word)
    return rank


def _counts_by_first(above):
    # How many lists begin with a word is worked out from the number of all of them,
    # since without the word only the sizes of the words above it are smaller, by 1.
    sizes = _sizes(above)
    total = _count_of_sizes(sizes)
    rows = []
    for word in sorted(above):
        if sizes[word] == 1:
            more, less = 1, len(above)
            for higher in _words_above(above, word):
                more = more * sizes[higher]
                less = less * (sizes[higher] - 1)
            rows.append((word, total * more // less))
    return rows


def _count_of_sizes(sizes):
    # Of so many orders as the size of a word says, one has it behind all words below it.
    divisor = 1
    for word in sizes:
        divisor = divisor * sizes[word]
    return factorial(len(sizes)) // divisor


def _sizes(above):
    # The size of a word counts the word and all words below it.
    sizes = {word: 1 for word in above}
    for word in above:
        for higher in _words_above(above, word):
            sizes[higher] += 1
    return sizes


def _words_above(above, word):
    found = []
    higher = above[word]
    while higher is not None:
        found.append(higher)
        higher = above[higher]
    return found


def _without(above, word):
    return {other: above[other] for other in above if other != word}
