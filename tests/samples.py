"""Systems that several tests use."""

from tests.byhand import Model

# The system of the document's examples.
JOBS = Model(
    {"job": 1, "stop": 1},
    [("first", (("take", "stop", 1), ("take", "job", 0), ("else", 0))), ("any", ())],
    {"user": [("any", (("send", "job", 1),)), ("any", (("send", "stop", 0),))]},
)

# A server that waits until so many clients have come, and a kind of one place beside them.
WAITING = Model(
    {"ask": 1, "say": 2},
    [("any", (("take", "ask", 1),)), ("any", (("take", "ask", 2),)), ("any", (("send", "say", 0), ("else", 2)))],
    {
        "guest": [("any", (("send", "ask", 1),)), ("first", (("take", "say", 0), ("else", 2))), ("any", ())],
        "usher": [("any", (("take", "say", 0), ("else", 0)))],
    },
)

# Clients who need one another: one at the seat 1 is needed while another one steps on from there.
PAIRS = Model(
    {"a": 1, "b": 1},
    [("any", (("take", "b", 1),)), ("any", (("else", 1),))],
    {
        "k": [("any", (("else", 1),)), ("any", (("send", "a", 2),)), ("any", (("take", "a", 0), ("send", "b", 0)))],
        "l": [("any", (("take", "a", 1),)), ("first", (("send", "b", 0), ("close", "a", 1)))],
    },
)

# Nobody comes.
ALONE = Model(
    {"a": 2},
    [("any", (("send", "a", 0), ("close", "a", 1))), ("first", (("take", "a", 1), ("ended", "a", 2))), ("any", ())],
    {},
)


def jobs():
    return JOBS.made()
