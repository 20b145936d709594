"""Things of all kinds, to ask of them whether something is so."""

DEEP = 1
for _ in range(12):
    DEEP = (DEEP,)

ODD = [
    None, True, False, 0, 1, -1, 10 ** 50, "", "1", "1/2", "r", "abc", [], (), [1], (1,), (None,), ("",),
    [1, 2], [[1, 2]], ((1, 2),), ((1, 2), (3, 4)), ((1, 2), 3), (1, (2, 3)), (1, 2, 3), (1, 2, 3, 4),
    ("1", "2"), (1, "2"), ("1", 2), (None, 1), (1, None), (None, None), ([1], 2), (1, [2]), ((), ()), DEEP,
    [(1, 2), (0, 1), 1], ["1", ("2", [None, True])], "12", "(1, 2)",
]
