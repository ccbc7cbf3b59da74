"""Programs: signs that run with a stack and a store."""

from tribunal.errors import TribunalError

SIGNS = "0123456789ginasmtcehlujfyo"
DIGITS = "0123456789"
MODULUS = 1000000
MOST_VALUES = 16
MOST_STEPS = 200


class Failed(TribunalError):
    """A sign of a program fails, and with it the run."""


class Run:
    """How a program ran."""

    def __init__(self, well, store, paid, steps):
        self.well = well
        self.store = store
        self.paid = paid
        self.steps = steps


def run(code, given, amount, store):
    """Runs a program."""
    machine = Machine(code, given, amount, store)
    try:
        machine.finish()
    except Failed:
        return Run(False, dict(store), 0, machine.steps)
    kept = {key: machine.store[key] for key in sorted(machine.store) if machine.store[key] != 0}
    return Run(True, kept, machine.paid, machine.steps)


def _plus(left, right):
    return left + right


def _minus(left, right):
    return max(0, left - right)


def _times(left, right):
    return left * right


def _append_digit(left, right):
    return 10 * left + right


def _is_less(left, right):
    return 1 if left < right else 0


def _is_equal(left, right):
    return 1 if left == right else 0


# The signs that make one value of two.
OF_TWO = {"a": _plus, "s": _minus, "m": _times, "t": _append_digit, "c": _is_less, "e": _is_equal}


class Machine:
    """A program while it runs; `place` is the place of the sign that runs next."""

    def __init__(self, code, given, amount, store):
        self.code = code
        self.given = given
        self.amount = amount
        # A copy, because a run that fails changes no store.
        self.store = dict(store)
        self.stack = []
        self.place = 0
        self.paid = 0
        self.steps = 0

    def finish(self):
        """Runs signs until the place is not a place of the program."""
        while self.place < len(self.code):
            if self.steps == MOST_STEPS:
                raise Failed("too many signs have run")
            sign = self.code[self.place]
            # A sign that fails has run, too, and a jump replaces the place that follows.
            self.steps += 1
            self.place += 1
            self.perform(sign)

    def perform(self, sign):
        """Does what a sign does."""
        if sign in DIGITS:
            self.push(int(sign))
        elif sign in ("g", "i", "n"):
            self.push_number(sign)
        elif sign in OF_TWO:
            self.combine(sign)
        elif sign in ("h", "l", "u"):
            self.move(sign)
        elif sign in ("j", "f"):
            self.jump(sign)
        else:
            self.settle(sign)

    def push(self, value):
        if len(self.stack) >= MOST_VALUES:
            raise Failed("the stack is full")
        self.stack.append(value % MODULUS)

    def take(self):
        """Pops the top of the stack."""
        if len(self.stack) == 0:
            raise Failed("the stack is empty")
        return self.stack.pop()

    def push_number(self, sign):
        if sign == "g":
            self.push(self.given)
        elif sign == "i":
            self.push(self.amount)
        else:
            self.push(len(self.stack))

    def combine(self, sign):
        work = OF_TWO[sign]
        right = self.take()
        left = self.take()
        self.push(work(left, right))

    def move(self, sign):
        """Copies a value, or moves it between the stack and the store."""
        top = self.take()
        if sign == "h":
            self.push(top)
            self.push(top)
        elif sign == "l":
            self.push(self.store.get(top, 0))
        else:
            self.store[top] = self.take()

    def jump(self, sign):
        """Replaces the place that follows, `f` only if the value below is 0."""
        place = self.take()
        if sign == "j" or self.take() == 0:
            self.place = place

    def settle(self, sign):
        """Pays out, or fails if a value is 0."""
        top = self.take()
        if sign == "y":
            self.paid += top
        elif top == 0:
            raise Failed("a value is 0")
