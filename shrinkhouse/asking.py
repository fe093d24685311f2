"""Askers: what is asked of a thing is remembered, counted and bounded."""

from shrinkhouse.errors import Spent


class Asker:
    """Asks whether what some places of one thing leave fails by one fault."""

    def __init__(self, thing, fault, most):
        self.whole = thing
        self.fault = fault
        self.most = most
        # By the form of what is left, since two lists of places may leave the same thing.
        self.answers = {}
        self.questions = []

    def fails(self, places):
        rest = self.whole.left(places)
        form = rest.form()
        if form not in self.answers:
            self.ask(places, rest)
        return self.answers[form]

    def ask(self, places, rest):
        if self.asked() >= self.most:
            raise Spent("no more questions may be asked")
        answer = self.fault.holds(rest)
        self.answers[rest.form()] = answer
        # A copy, since the list that was handed in may change later.
        self.questions.append((tuple(places), answer))

    def asked(self):
        return len(self.questions)

    def log(self):
        return [(list(places), answer) for places, answer in self.questions]

    def thing(self):
        return self.whole

    def grows(self):
        return self.fault.grows()
