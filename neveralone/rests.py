"""The rests of two tables: pairs of weights in which each side answers the other one best (points 95, 98, 99)."""

from neveralone.bounds import growth
from neveralone.corners import corner_point
from neveralone.errors import NotAPartition
from neveralone.exact import lowest_terms, solve
from neveralone.partitions import check_partition, list_partitions
from neveralone.rooms import subsets
from neveralone.tables import both_bounds, check_tables, corner_family, start_row


def best_rows(first, others):
    """Return the list of the rows that are best answers to `others`."""
    return greatest_at([growth(entries, others) for entries in first])


def best_columns(second, weights):
    """Return the list of the columns that are best answers to `weights`."""
    columns = range(len(second[0]))
    return greatest_at([growth([entries[column] for entries in second], weights) for column in columns])


def greatest_at(numbers):
    """Return the indexes of the greatest one of the numbers."""
    most = max(numbers)
    return [at for at, number in enumerate(numbers) if number == most]


def is_rest(first, second, weights, others):
    """Tell whether a pair of weights of the rows and of the columns is a rest."""
    rows, columns = check_tables(first, second)
    if len(weights) != rows or len(others) != columns:
        return False
    if not are_weights(weights) or not are_weights(others):
        return False
    return (all([at in best_rows(first, others) for at in used_at(weights)])
            and all([at in best_columns(second, weights) for at in used_at(others)]))


def are_weights(numbers):
    """Tell whether no number is negative and not all are 0."""
    return min(numbers) >= 0 and max(numbers) > 0


def used_at(numbers):
    """Return the indexes of the numbers other than 0."""
    return [at for at, number in enumerate(numbers) if number != 0]


def unused_at(numbers):
    """Return the indexes of the numbers that are 0."""
    return [at for at, number in enumerate(numbers) if number == 0]


def rest_at(bounds, row):
    """Return the rest of a partition of the table family other than the start."""
    points = [corner_point(side, room) for side, room in zip(bounds, row)]
    return tuple([lowest_terms(numerators) for numerators, _ in points])


def rest_of_row(first, second, row):
    """Return the rest of a partition of the table family."""
    bounds = both_bounds(first, second)
    checked = check_partition(corner_family(bounds), row)
    if checked == start_row(first, second):
        raise NotAPartition("start")
    return rest_at(bounds, checked)


def row_of_rest(first, second, rest):
    """Return the partition of a rest."""
    both_bounds(first, second)
    return row_of_answers(first, second, rest)


def row_of_answers(first, second, rest):
    """Return the partition of a rest of tables without a tie."""
    weights, others = rest
    if not is_rest(first, second, weights, others):
        raise NotAPartition("rest")
    rows = len(first)
    room = unused_at(weights) + [rows + column for column in best_columns(second, weights)]
    answer = best_rows(first, others) + [rows + column for column in unused_at(others)]
    return (tuple(room), tuple(answer))


def list_rests(first, second):
    """Return the ascending list of all rests in lowest terms."""
    bounds = both_bounds(first, second)
    start = start_row(first, second)
    rows = list_partitions(corner_family(bounds))
    return sorted([rest_at(bounds, row) for row in rows if row != start])


def rests_by_supports(first, second):
    """Return the ascending list of all rests in lowest terms, found without corners."""
    rows, columns = check_tables(first, second)
    found = []
    for many in range(1, min(rows, columns) + 1):
        for above in subsets(tuple(range(rows)), many):
            for beside in subsets(tuple(range(columns)), many):
                found.extend(rests_on(first, second, above, beside))
    return sorted(found)


def rests_on(first, second, above, beside):
    """Return the list of the rest that is not 0 at just these rows and columns, if there is one."""
    ones = [1 for _ in above]
    weights = solve([[second[at][column] for at in above] for column in beside], ones)
    others = solve([[first[at][column] for column in beside] for at in above], ones)
    if weights is None or others is None or min(weights[0]) <= 0 or min(others[0]) <= 0:
        return []
    rest = (spread(weights[0], above, len(first)), spread(others[0], beside, len(first[0])))
    return [rest] if is_rest(first, second, rest[0], rest[1]) else []


def spread(numbers, places, many):
    """Return the tuple in lowest terms that has the numbers at the places and 0 elsewhere."""
    told = {place: number for place, number in zip(places, numbers)}
    return lowest_terms([told.get(at, 0) for at in range(many)])
