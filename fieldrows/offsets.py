"""Offsets: where a label stands in a row, by how many of the fields stand ahead of it."""


def offset(row, label, params):
    return (len([other for other, kind in row[1] if other < label]), parameter_of(row[2], label, params))


# A shut row has no parameter, as None is no open row's number.
def parameter_of(tail, label, params):
    for number, param in enumerate(params):
        if param == (tail, label):
            return number
    return None
