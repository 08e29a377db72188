"""Trees that cost least, and the tables that show it."""

from seektree.checks import check_keys, check_weights


def whole_weight(hits, misses, start, end):
    return sum(hits[start:end]) + sum(misses[start:end + 1])


def parted_worths(table, start, end):
    # One sum for each key of the stretch as its root: the worths of the stretches ahead of it and behind it.
    return [table[start][root - start] + table[root + 1][end - root - 1] for root in range(start, end)]


def worth_table(hits, misses):
    table = [[0] for miss in misses]
    # From the last start to the first: a stretch needs the worths of those that begin behind its start.
    for start in range(len(hits) - 1, -1, -1):
        for end in range(start + 1, len(hits) + 1):
            whole = whole_weight(hits, misses, start, end)
            table[start].append(whole + min(parted_worths(table, start, end)))
    return table


def least_root(table, start, end):
    # The whole weight is the same for every root, so the sums alone tell; index finds the least place among equals.
    sums = parted_worths(table, start, end)
    return start + sums.index(min(sums))


def root_row(table, start):
    return [least_root(table, start, end) for end in range(start + 1, len(table))]


def grown(keys, root_rows, start, end):
    if start == end:
        return None
    root = root_rows[start][end - start - 1]
    return (keys[root], grown(keys, root_rows, start, root), grown(keys, root_rows, root + 1, end))


def worths(keys, hits, misses):
    check_keys(keys)
    check_weights(keys, hits, misses)
    return worth_table(hits, misses)


def roots(keys, hits, misses):
    table = worths(keys, hits, misses)
    return [root_row(table, start) for start in range(len(keys))]


def least(keys, hits, misses):
    return worths(keys, hits, misses)[0][len(keys)]


def best(keys, hits, misses):
    return grown(keys, roots(keys, hits, misses), 0, len(keys))
