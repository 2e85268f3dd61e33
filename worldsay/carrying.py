"""Papers carried from a small world to the world that it is the small one of."""

from worldsay.claims import Book
from worldsay.nodes import Frame
from worldsay.small import small
from worldsay.worlds import Ground


def carried(world, sentence, paper):
    """A paper for a world, of one for its small world: each row for each point of its class."""
    told = small(world)
    numbers = told[1]
    book = Book(Ground(told[0]), Frame(sentence), paper)
    ground = Ground(world)
    rows = []
    for row in paper:
        for point in range(ground.many):
            if numbers[point] == row[1]:
                choice = carried_choice(book, ground, numbers, row, point)
                rows.append((row[0], point, row[2], row[3], choice))
    return tuple(rows)


def carried_choice(book, ground, numbers, row, point):
    """The choice of a row as it is carried to a point of its class."""
    thing = book.frame.things[row[0]]
    if row[4] is None or thing[0] not in ("some", "every"):
        return row[4]
    step = thing[1]
    if step[0] == "one":
        # The point itself is joined whatever was shown.
        if row[4] == row[1]:
            return point
        hands = [hand for hand in book.joining(step, row[1], row[4])
                 if book.is_joined_for(row[0], hand, row[1], row[4])]
        step = ("one", (hands[0],))
    return [other for other in ground.leads(step, point) if numbers[other] == row[4]][0]
