"""Papers read by the document's words, without the program."""

from plain_looks import LETTERS, plain_line, plain_told


def plain_stands(sizes, looks, stone, row):
    place, i, j = row
    if place not in stone:
        return False
    told = dict(plain_told(sizes, looks, stone, place))
    if i not in told or j not in told:
        return False
    if i == j:
        return told[i] == "."
    return i < j and told[i] in LETTERS and told[j] in LETTERS and told[i] != told[j]


def plain_fault(sizes, looks, stone, paper, left):
    now = list(stone)
    for number, row in enumerate(paper):
        if not plain_stands(sizes, looks, now, row):
            return number
        now.remove(row[0])
    return None if now == left else len(paper)


def rows_stand(sizes, looks, stone, paper):
    gone = [row[0] for row in paper]
    return plain_fault(sizes, looks, stone, paper, [grain for grain in stone if grain not in gone]) is None


def plain_because(sizes, looks, stone, paper, place):
    """The rows needed, found by asking again and again until no more are."""
    rows = {row[0]: row for row in paper}
    needed, asked = [place], 0
    while asked < len(needed):
        grain, i, j = rows[needed[asked]]
        asked += 1
        for number in (i, j):
            for near in plain_line(sizes, looks[number][0], grain)[0]:
                if near in stone and near not in needed:
                    needed.append(near)
    return [row for row in paper if row[0] in needed]
