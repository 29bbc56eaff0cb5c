"""How rows stand in an answer, and a record as a row."""


# Behind the numbers each row, with how many numbers it has before it.
def with_rows(numbers, rows):
    told = list(numbers)
    for row in rows:
        told.append(len(row))
        told.extend(row)
    return told


def value_told(value):
    if value is None:
        return [-1]
    return [len(value)] + value


def row_of(record):
    told = [record.place, record.time, record.key, record.sender, record.number, record.kind]
    return told + value_told(record.value)
