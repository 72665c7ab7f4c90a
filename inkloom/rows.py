"""Rows of rising numbers."""


def many_upto(row, most):
    least = 0
    beyond = len(row)
    while least < beyond:
        middle = (least + beyond) // 2
        if row[middle] <= most:
            least = middle + 1
        else:
            beyond = middle
    return least
