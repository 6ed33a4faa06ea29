"""Copies told once more by a model of their own: what is sent is noted in dicts, and moves have short words.

b0: hand 0 begins. a0:2: the letter by which hand 0 asks copy 2 comes there; A0:2: its answer comes back. k0:2 and K0:2:
likewise the letter to keep something. An x ahead: it is lost. Of several the one that was sent first; 1.k0:2 is that of
the hand's deed 1.
"""

FIRST = {"stamp": (0, -1), "worth": 0}


class Post:
    def __init__(self, many, plan, back):
        self.many, self.plan, self.back = many, plan, back
        self.copies = [dict(FIRST) for copy in range(many)]
        self.hands = [{"deed": -1, "phase": "idle", "answers": {}} for own in plan]
        self.under_way = []
        self.events = []

    def moves(self):
        begins = [("begin", hand) for hand, state in enumerate(self.hands)
                  if state["phase"] == "idle" and state["deed"] + 1 < len(self.plan[hand])]
        return begins + [("come", letter) for letter in self.under_way] + [("lost", letter) for letter in self.under_way]

    def is_called(self, move, word):
        sort, what = move
        if sort == "begin":
            return word == f"b{what}"
        sign = what["phase"][0] if what["to"] == "copy" else what["phase"][0].upper()
        short = f"{sign}{what['hand']}:{what['copy']}"
        lost = "x" if sort == "lost" else ""
        return word in [lost + short, f"{lost}{what['deed']}.{short}"]

    def number_of(self, word):
        return [self.is_called(move, word) for move in self.moves()].index(True)

    def go(self, number):
        sort, what = self.moves()[number]
        if sort == "begin":
            state = self.hands[what]
            state["deed"] += 1
            self.events.append(("begin", what, "r", *self.plan[what][state["deed"]]))
            self.start(what, "ask", {})
            return
        self.under_way = [letter for letter in self.under_way if letter is not what]
        if sort == "come" and what["to"] == "copy":
            self.come_to_copy(what)
        elif sort == "come":
            self.come_to_hand(what)

    def start(self, hand, phase, content):
        state = self.hands[hand]
        state["phase"], state["answers"] = phase, {}
        for copy in range(self.many):
            self.under_way.append(
                {"to": "copy", "hand": hand, "deed": state["deed"], "phase": phase, "copy": copy, **content})

    def come_to_copy(self, letter):
        held = self.copies[letter["copy"]]
        if letter["phase"] == "keep":
            number, hand = letter["stamp"]
            if number > held["stamp"][0] or (number == held["stamp"][0] and hand > held["stamp"][1]):
                held["stamp"], held["worth"] = letter["stamp"], letter["worth"]
        self.under_way.append({**letter, "to": "hand", **held})

    def come_to_hand(self, letter):
        state = self.hands[letter["hand"]]
        if (state["deed"], state["phase"]) != (letter["deed"], letter["phase"]):
            return
        state["answers"][letter["copy"]] = letter
        if len(state["answers"]) * 2 > self.many:
            self.go_on(letter["hand"], state)

    def go_on(self, hand, state):
        verb, worth = self.plan[hand][state["deed"]]
        newest = max(state["answers"].values(), key=lambda letter: letter["stamp"])
        if state["phase"] == "ask" and verb == "write":
            state["kept"] = "ok"
            self.start(hand, "keep", {"stamp": (newest["stamp"][0] + 1, hand), "worth": worth})
            return
        if state["phase"] == "ask":
            state["kept"] = newest["worth"]
            if self.back:
                self.start(hand, "keep", {"stamp": newest["stamp"], "worth": newest["worth"]})
                return
        state["phase"] = "idle"
        self.events.append(("end", hand, state["kept"]))


def choices_of(many, plan, back, words):
    """The choices that make these moves, and what the model notes of them."""
    post, choices = Post(many, plan, back), []
    for word in words.split():
        choices.append(post.number_of(word))
        post.go(choices[-1])
    return choices, post.events


def chance_run(source, many, plan, back, most):
    """Choices by chance, by which few letters are lost, and what the model notes of them."""
    post, choices = Post(many, plan, back), []
    lossy, fair = source.choice([0, 0.02, 0.1]), source.choice([0, 0.1, 0.5])
    favourite = source.randrange(len(plan))
    while len(choices) < most and post.moves():
        if source.random() < 0.1:
            favourite = source.randrange(len(plan))
        moves = list(enumerate(post.moves()))
        lost = source.random() < lossy
        some = [move for move in moves if (move[1][0] == "lost") == lost] or moves
        # Where this is not fair, one hand alone goes on for a while, and the others' letters come late.
        own = [move for move in some if hand_of(move[1]) == favourite]
        number = source.choice(some if not own or source.random() < fair else own)[0]
        # By what is left over: the number of moves as often as one likes, also below 0.
        choices.append(number + len(moves) * source.choice([0, 0, 1, 7, 10 ** 20, -1, -3, -10 ** 20]))
        post.go(number)
    return choices, post.events


def hand_of(move):
    return move[1] if move[0] == "begin" else move[1]["hand"]


def chance_copies_plan(source, most_hands, most_deeds, writing_hands=(0, 1, 2, 3, 4, 5)):
    plan = [[] for hand in range(source.choice([1, most_hands - 1, most_hands, most_hands]))]
    worths = source.sample(range(-30, 0), 15) + source.sample(range(1, 31), 15)
    for number in range(source.randint(1, most_deeds)):
        hand = source.randrange(len(plan))
        writes = hand in writing_hands and source.random() < 0.5
        plan[hand].append(("write", source.choice(worths)) if writes else ("read", None))
        worths = [worth for worth in worths if ("write", worth) not in plan[hand]]
    return plan
