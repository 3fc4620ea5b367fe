"""How many letters ahead tell the marks of rests."""


def ahead_of(marks):
    """Any ahead paper: a number of letters, or letters again and again that never tell two marks apart."""
    rows = _rows_of_classes(marks)
    if max(list(rows[-1].values())) > 0:
        return _never(marks, rows[-1])
    many = len(rows) - 1
    if many == 0:
        return "ahead", 0, None, None
    before = rows[many - 1]
    one, other = 0, [mark for mark in marks if before[mark] != before[0]][0]
    ends = marks.first_rest(one), marks.first_rest(other)
    text = ""
    for row in rows[:many - 1][::-1]:
        letter, one, other = _kept_apart_by(marks, row, one, other)
        text = letter + text
    return "ahead", many, text + ends[0], text + ends[1]


def _rows_of_classes(marks):
    """For each number of letters, one after another, which marks any so many letters ahead make one.

    Each row is a dict from marks to the numbers of classes, the first of which is 0. The last row has one class,
    or the same classes as further letters would give.
    """
    steps = marks.steps
    rows = [{mark: mark for mark in marks}]
    while max(list(rows[-1].values())) > 0:
        last = rows[-1]
        numbers = {}
        row = {}
        for mark in marks:
            onward = tuple([last[steps[(letter, mark)]] for letter in marks.letters])
            row[mark] = numbers.setdefault(onward, len(numbers))
        if row == last:
            break
        rows.append(row)
    return rows


def _kept_apart_by(marks, row, one, other):
    """The first letter ahead of two marks behind which they are not in one class, with the marks there."""
    steps = marks.steps
    letters = [letter for letter in marks.letters if row[steps[(letter, one)]] != row[steps[(letter, other)]]]
    return letters[0], steps[(letters[0], one)], steps[(letters[0], other)]


def _never(marks, row):
    """The paper of letters that lead from two marks of unlike classes back to them."""
    one, other = 0, [mark for mark in marks if row[mark] > 0][0]
    met = {}
    letters = []
    while (one, other) not in met:
        met[(one, other)] = len(letters)
        letter, one, other = _kept_apart_by(marks, row, one, other)
        letters.append(letter)
    # Each further letter stands ahead of those before it.
    text = "".join(letters[met[(one, other)]:][::-1])
    return "never", text, marks.first_rest(one), marks.first_rest(other)
