"""Values that stand where something else is asked for; a new list each time."""


class Agreeing:
    """Says of everything that it is the same."""

    def __eq__(self, other):
        return True

    def __hash__(self):
        return 0


def no_numbers():
    """What is no whole number, though some of it looks like one, and is not None."""
    return [True, False, 0.0, 1.0, 0.5, float("nan"), float("inf"), 1j, "", "0", "1", "ok", b"1",
            [], [1], [1, 2], (), (1,), (1, 2, 3), {}, {1: 2}, set(), object(), Agreeing(), int, len]


def no_texts():
    """What is no text."""
    return [None, True, False, 0, 1, -1, 0.5, b"read", b"register", [], ["read"], ["register"], (), ("read",),
            ("register",), {}, {"read": "read"}, {"register"}, object(), Agreeing(), str, len]


def no_strictnesses():
    """What is none of the three strictnesses, though some of it looks like one."""
    return ["", "Strict", "STRICT", "strict ", " strict", "strict\n", "stric", "strictly", "hand", "Hands", "bar",
            "bare\0", "none", "strict hands", None, True, False, 0, 1, -1, 10 ** 40, 0.5, float("nan"), b"strict",
            [], ["strict"], ["strict", "hands", "bare"], (), ("bare",), ("strict", "hands", "bare"), {},
            {"strict": True}, {"hands"}, object(), Agreeing(), str, len]


def no_steps():
    """What is no step of an order and no place, whatever the tale."""
    return [None, True, False, 0, 1, -1, 0.5, "", "ok", "0:ok", b"", [], [0, "ok"], [(), ()], {}, {0: "ok"}, set(), (),
            (0,), (0, "ok", "ok"), ((0, "ok"),), (None, None), (None, "ok"), ("0", "ok"), ([], []), ((), []), ([], ()),
            ((), (), ()), ((),), (object(), object()), object(), (Agreeing(), Agreeing()),
            Agreeing(), tuple, len]
