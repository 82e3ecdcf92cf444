"""A slow search through all runs of a small script, step by step on records."""

import itertools

from tests import cases


def all_records(fields, values=range(10)):
    return list(itertools.product(values, repeat=fields))


def telling_records(fields):
    """Records, those of 0 and 1 among them, that tell any two effects on these fields apart."""
    return all_records(fields, (0, 1)) + list(cases.records_that_tell(fields))


def all_marks(many):
    """All marks of a script with so many steps, the shorter ones first, each length ascending."""
    return [marks for size in range(many + 1) for marks in itertools.combinations(range(1, many + 1), size)]


def begun_at(marks, place):
    return max((mark for mark in marks if mark <= place), default=0)


def marked(steps, marks, stops, record):
    """The last record of a run with marks and stops, done one step at a time with a list of the marks that are set."""
    record, marks_set = tuple(record), []
    for many in [*stops, len(steps)]:
        place = max(marks_set, default=0)
        for _ in range(many):
            if place < len(steps):
                record = cases.reckoned(steps[place:place + 1], record)
                place += 1
                if place in marks:
                    marks_set.append(place)
    return record


def ends(script, marks, records):
    """All that these records can be at last, each with the first one of the shortest stops that lead there."""
    steps = script[1]
    begin = (0, tuple(records))
    found, seen, queue = {}, {begin}, [(begin, ())]
    for (start, rows), stops in queue:
        found.setdefault(tuple([cases.reckoned(steps[start:], row) for row in rows]), stops)
        for many in range(13):
            place = min(start + many, len(steps))
            state = (begun_at(marks, place), tuple([cases.reckoned(steps[start:place], row) for row in rows]))
            if state not in seen:
                seen.add(state)
                queue.append((state, (*stops, many)))
    return found


def whole(script, records):
    return tuple([cases.reckoned(script[1], row) for row in records])


def matters(script):
    """The fields whose value makes a difference for the result."""
    fields, steps = script
    pairs = [(row, row[:field] + (5,) + row[field + 1:], field)
             for row in all_records(fields, (0, 1)) for field in range(fields)]
    return tuple(sorted({field for row, other, field in pairs if
                         cases.reckoned(steps, row) != cases.reckoned(steps, other)}))


def verdict(script):
    fields, steps = script
    records = telling_records(fields)
    if set(ends(script, (), records)) == {whole(script, records)}:
        return ("safe", matters(script))
    for many in range(len(steps) + 1):
        for record in all_records(fields):
            if cases.reckoned_stopped(steps, (many,), record) != cases.reckoned(steps, record):
                return ("stop", many, record)
    raise AssertionError(script)


def marks_verdict(script, marks):
    fields, steps = script
    records = telling_records(fields)
    expected = whole(script, records)
    wrong = [stops for end, stops in ends(script, marks, records).items() if end != expected]
    if not wrong:
        return ("enough",)
    stops = min(wrong, key=lambda row: (len(row), row))
    for record in all_records(fields):
        if marked(steps, marks, stops, record) != cases.reckoned(steps, record):
            return ("stops", stops, record)
    raise AssertionError(script)


def fewest(script):
    records = telling_records(script[0])
    expected = {whole(script, records)}
    return next(marks for marks in all_marks(len(script[1])) if set(ends(script, marks, records)) == expected)


def all_steps(fields, values):
    made = [(word, *pair) for word in ("copy", "exchange") for pair in itertools.permutations(range(fields), 2)]
    return made + [("write", value, field) for value in values for field in range(fields)]


def all_scripts(fields, values, most):
    """All scripts of up to so many steps that write these values alone."""
    steps = all_steps(fields, values)
    return [(fields, row) for many in range(most + 1) for row in itertools.product(steps, repeat=many)]


def distances(fields, values):
    """For each table of results on telling records the least number of steps that lead to it."""
    begin = tuple(telling_records(fields))
    steps = all_steps(fields, values)
    found, queue = {begin: 0}, [begin]
    for rows in queue:
        for step in steps:
            made = tuple([cases.reckoned((step,), row) for row in rows])
            if made not in found:
                found[made] = found[rows] + 1
                queue.append(made)
    return found


def is_safe(script, records):
    """Whether all runs end as one whole run does, found by a search through them."""
    return set(ends(script, (), records)) == {whole(script, records)}


def orders(script):
    """All orders with the same results that are safe, found by trying each one."""
    fields, steps = script
    records = telling_records(fields)
    expected, found = whole(script, records), []
    for row in itertools.permutations(range(len(steps))):
        other = (fields, tuple([steps[number] for number in row]))
        if whole(other, records) == expected and is_safe(other, records):
            found.append(row)
    return found
