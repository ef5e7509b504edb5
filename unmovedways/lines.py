"""Lines of a log, each with its number and a check sum."""

from unmovedways.errors import BadLog

MODULUS = 997
# What stands behind the body: a space and the three digits of the check sum.
TAIL = 4


def check_sum(text):
    """Returns the check sum of a text, which no change of a single character leaves as it is."""
    total = sum([(at + 1) * ord(sign) for at, sign in enumerate(text)])
    rest = total % MODULUS
    return f"{rest:03d}"


def record_line(line, body):
    """Returns the line with this number and body, with its line feed."""
    head = f"{line} {body}"
    return f"{head} {check_sum(head)}\n"


def read_lines(text):
    """Returns the bodies of the whole lines of a log, and the number of their characters."""
    bodies = []
    length = 0
    for line, row in enumerate(text.split("\n")[:-1]):
        body = row[len(f"{line} "):-TAIL]
        if len(body) == 0 or record_line(line, body) != row + "\n":
            raise BadLog(line)
        bodies.append(body)
        length += len(row) + 1
    return (bodies, length)
