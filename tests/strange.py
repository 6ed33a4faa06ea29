"""Values that stand where something else is asked for; a new list each time."""


def no_numbers():
    """What is no whole number, though some of it looks like one, and is not None."""
    return [True, False, 0.0, 1.0, 0.5, float("nan"), float("inf"), 1j, "", "0", "1", "ok", b"1",
            [], [1], [1, 2], (), (1,), (1, 2, 3), {}, {1: 2}, set(), object(), int, len]


def no_texts():
    """What is no text."""
    return [None, True, False, 0, 1, -1, 0.5, b"read", b"register", [], ["read"], ["register"], (), ("read",),
            ("register",), {}, {"read": "read"}, {"register"}, object(), str, len]
