"""The forms in which lists are handed in and answers are told."""


def are_places(roadmap, row):
    return all([roadmap.has_place(v) for v in row]) and len(set(row)) == len(row)


def are_pairs(roadmap, row, greatest):
    if len(row) % 2 == 1 or not are_places(roadmap, row[0::2]):
        return False
    return all([0 <= number <= greatest for number in row[1::2]])


def pairs_of(row):
    return list(zip(row[0::2], row[1::2]))


def listed(numbers):
    return [len(numbers)] + numbers


def listed_pairs(pairs):
    numbers = [len(pairs)]
    for place, number in pairs:
        numbers.extend([place, number])
    return numbers


def maybe_a_number(number):
    if number is None:
        return [0, 0]
    return [1, number]
