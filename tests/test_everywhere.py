"""Point 1 and the head of the interface: what holds in every module."""

import ast
import importlib
import inspect
import pathlib
import unittest

import tribunal

FOLDER = pathlib.Path(tribunal.__file__).parent

# For each module: its functions and methods with their parameters, and its classes.
FUNCTIONS = {
    "votes": {
        "proposal": ["height", "turn", "block"],
        "prevote": ["height", "turn", "block", "lean"],
        "precommit": ["height", "turn", "block"],
        "is_vote": ["statement"],
        "clash": ["one", "other"],
    },
    "wire": {"letter_line": ["letter"], "read_letter": ["line"]},
    "plain": {
        "certified": ["committee", "letters", "height", "turn", "block"],
        "committed": ["committee", "letters", "height", "turn", "block"],
    },
    "journal": {"restore": ["who", "lines"]},
    "court": {"holds": ["charge"], "charge_of": ["letters", "who"], "charges": ["committee", "letters"]},
    "paper": {
        "shows": ["committee", "height", "block", "letters"],
        "shown_turn": ["committee", "height", "block", "letters"],
        "commit_paper": ["book", "block"],
        "accuse": ["committee", "height", "one", "other"],
    },
    "commands": {
        "commands_of": ["block"], "command_text": ["command"], "checked_text": ["command"], "block_of": ["commands"],
    },
    "machine": {"run": ["code", "given", "amount", "store"]},
    "ledger": {"first_ledger": ["grants"], "after_command": ["ledger", "command"]},
    "client": {"dispute": ["client", "other"]},
    "archive": {"archive_lines": ["blocks", "papers"], "read_archive": ["weights", "grants", "lines"]},
    "script": {
        "event_line": ["event"], "read_event": ["line", "at"], "play": ["weights", "liars", "grants", "lines"],
    },
}
CLASSES = {
    "errors": {
        "TribunalError": {}, "BadWeights": {}, "BadLine": {}, "BadJournal": {}, "BadArchive": {},
        "BadScript": {}, "BadCommand": {}, "Refused": {}, "BadPaper": {}, "Forged": {},
    },
    "committee": {
        "Committee": {
            "__init__": ["self", "weights"],
            "weight_of": ["self", "members"],
            "is_quorum": ["self", "members"],
            "is_third": ["self", "members"],
            "leader": ["self", "height", "turn"],
        },
    },
    "book": {
        "Book": {
            "__init__": ["self", "committee", "height"],
            "add": ["self", "letter"],
            "letters": ["self"],
            "has_certificate": ["self", "turn", "block"],
            "latest": ["self", "block", "turn"],
        },
    },
    "journal": {
        "Journal": {
            "__init__": ["self", "who"],
            "sign": ["self", "statement"],
            "last_turn": ["self", "height"],
            "lines": ["self"],
        },
    },
    "court": {"Charge": {"__init__": ["self", "who", "first", "second"]}},
    "machine": {"Run": {}},
    "ledger": {"Ledger": {"__eq__": ["self", "other"]}},
    "chain": {
        "Chain": {
            "__init__": ["self", "weights", "grants"], "height": ["self"], "committee": ["self"],
            "extend": ["self", "block"],
        },
    },
    "pool": {
        "Pool": {"__init__": ["self"], "submit": ["self", "command"], "block": ["self"], "remove": ["self", "block"]},
    },
    "client": {
        "Client": {
            "__init__": ["self", "weights", "grants"], "follow": ["self", "block", "paper"],
            "catch_up": ["self", "entries"],
        },
    },
    "replica": {
        "Replica": {
            "__init__": ["self", "who", "chain", "journal"], "start": ["self"], "receive": ["self", "letter"],
            "timeout": ["self"], "submit": ["self", "command"], "adopt": ["self", "block", "paper"],
        },
    },
    "net": {
        "Net": {
            "__init__": ["self", "weights", "liars", "grants"], "deliver": ["self", "at", "to"],
            "timeout": ["self", "to"], "inject": ["self", "letter"], "submit": ["self", "who", "command"],
            "assist": ["self", "to", "source"], "crash": ["self", "who", "torn"], "chain": ["self", "who"],
        },
    },
}
# The whole interface: no module is missing above.
MODULES = {
    "errors", "committee", "votes", "wire", "plain", "book", "journal", "court", "paper", "commands", "machine",
    "ledger", "chain", "pool", "client", "replica", "archive", "net", "script",
}
LIBRARY = {"heapq", "math", "itertools", "collections"}
OUTSIDE = {
    "open", "input", "print", "exec", "eval", "compile", "globals", "locals", "vars", "breakpoint", "__import__",
}


def module(name):
    return importlib.import_module("tribunal." + name)


def trees():
    """Each file of the package with its text, read."""
    for path in sorted(FOLDER.glob("**/*.py")):
        yield path.name, ast.parse(path.read_text(encoding="utf-8"))


class Interface(unittest.TestCase):
    def assert_defined(self, made, name, kind):
        self.assertTrue(kind(made), name)
        self.assertEqual(made.__module__, name)

    def test_each_function_stands_in_its_module_with_its_arguments(self):
        for name, functions in FUNCTIONS.items():
            for word, parameters in functions.items():
                made = getattr(module(name), word)
                self.assert_defined(made, "tribunal." + name, inspect.isfunction)
                self.assertEqual(list(inspect.signature(made).parameters), parameters, word)

    def test_every_module_is_looked_at(self):
        self.assertEqual(set(FUNCTIONS) | set(CLASSES), MODULES)

    def test_each_class_stands_in_its_module_with_its_own_methods(self):
        for name, classes in CLASSES.items():
            for word, methods in classes.items():
                made = getattr(module(name), word)
                self.assert_defined(made, "tribunal." + name, inspect.isclass)
                for method, parameters in methods.items():
                    self.assertIn(method, vars(made))
                    self.assertEqual(list(inspect.signature(vars(made)[method]).parameters), parameters, method)

    def test_arguments_can_be_passed_by_their_names(self):
        made = module("committee").Committee(weights=[1, 2])
        self.assertEqual(made.weight_of(members=[1]), 2)
        self.assertIs(made.is_quorum(members=[1]), False)
        self.assertIs(made.is_third(members=[1]), True)
        self.assertEqual(made.leader(height=1, turn=1), 0)
        votes = module("votes")
        one = votes.prevote(height=1, turn=2, block="a", lean=0)
        other = votes.precommit(height=1, turn=1, block="b")
        self.assertIs(votes.clash(one=one, other=other), True)
        self.assertIs(votes.is_vote(statement=votes.proposal(height=1, turn=0, block="a")), False)

    def test_arguments_of_letters_books_and_journals_by_their_names(self):
        letter = module("wire").read_letter(line="0 prevote 4 0 a -")
        self.assertEqual(module("wire").letter_line(letter=letter), "0 prevote 4 0 a -")
        alone = module("committee").Committee([1])
        book = module("book").Book(committee=alone, height=4)
        self.assertIs(book.add(letter=letter), True)
        self.assertIs(book.has_certificate(turn=0, block="a"), True)
        self.assertEqual(book.latest(block="a", turn=1), 0)
        asked = {"committee": alone, "letters": [letter], "height": 4, "turn": 0, "block": "a"}
        self.assertIs(module("plain").certified(**asked), True)
        self.assertIs(module("plain").committed(**asked), False)
        journal = module("journal").Journal(who=0)
        self.assertEqual(journal.sign(statement=letter[1]), letter)
        self.assertEqual(journal.last_turn(height=4), 0)
        self.assertEqual(module("journal").restore(who=0, lines=journal.lines()).signed, [letter[1]])

    def test_arguments_of_papers_and_of_the_court_by_their_names(self):
        alone = module("committee").Committee([1])
        letters = {block: [(0, ("prevote", 0, 0, block, None)), (0, ("precommit", 0, 0, block))] for block in "ab"}
        book = module("book").Book(alone, 0)
        for letter in letters["a"]:
            book.add(letter)
        paper = module("paper")
        self.assertEqual(sorted(paper.commit_paper(book=book, block="a")), sorted(letters["a"]))
        self.assertIs(paper.shows(committee=alone, height=0, block="a", letters=letters["a"]), True)
        self.assertEqual(paper.shown_turn(committee=alone, height=0, block="a", letters=letters["a"]), 0)
        one, other = ("a", letters["a"]), ("b", letters["b"])
        self.assertEqual(len(paper.accuse(committee=alone, height=0, one=one, other=other)), 1)
        court = module("court")
        charge = court.charge_of(letters=letters["a"] + letters["b"], who=0)
        self.assertIs(court.holds(charge=charge), True)
        self.assertEqual(len(court.charges(committee=alone, letters=letters["a"] + letters["b"])), 1)
        self.assertIs(court.holds(court.Charge(who=1, first=charge.first, second=charge.second)), False)

    def test_arguments_of_commands_and_programs_by_their_names(self):
        commands = module("commands")
        self.assertEqual(commands.commands_of(block="w1x2"), [("w", 1, 2)])
        self.assertEqual(commands.command_text(command=("w", 1, 2)), "w1x2")
        self.assertEqual(commands.checked_text(command=("w", 1, 2)), "w1x2")
        self.assertEqual(commands.block_of(commands=[("w", 1, 2)]), ("w1x2", 1))
        ran = module("machine").run(code="gy", given=3, amount=0, store={})
        self.assertEqual((ran.well, ran.store, ran.paid, ran.steps), (True, {}, 3, 2))

    def test_arguments_of_ledgers_chains_pools_and_clients_by_their_names(self):
        ledger = module("ledger").first_ledger(grants=[5, 0])
        found, done = module("ledger").after_command(ledger=ledger, command=("p", 0, 1, 2))
        self.assertEqual((found.balances, found.codes, found.stores, done), ((3, 2), ("", ""), ((), ()), True))
        chain = module("chain").Chain(weights=[1, 2], grants=[5, 0])
        chain.extend(block="p0q1r2")
        self.assertTrue(chain.ledgers[1] == found)
        pool = module("pool").Pool()
        pool.submit(command=("w", 0, 5))
        self.assertEqual(pool.block(), "w0x5")
        pool.remove(block="w0x5")
        self.assertEqual(pool.waiting, [])
        client = module("client").Client(weights=[1], grants=())
        other = module("client").Client([1], ())
        paper = [(0, ("prevote", 0, 0, "a", None)), (0, ("precommit", 0, 0, "a"))]
        self.assertEqual(client.follow(block="a", paper=paper), 1)
        self.assertEqual(other.catch_up(entries=[("a", paper), ("b", paper)]), 1)
        self.assertIsNone(module("client").dispute(client=client, other=other))

    def test_arguments_of_keepers_and_archives_by_their_names(self):
        chain, journal = module("chain").Chain([1, 1, 1], ()), module("journal").Journal(1)
        keeper = module("replica").Replica(who=1, chain=chain, journal=journal)
        self.assertEqual(keeper.start(), [])
        keeper.submit(command=("w", 0, 5))
        vote = (1, ("prevote", 0, 0, "a", None))
        self.assertEqual(keeper.receive(letter=(0, ("proposal", 0, 0, "a"))), [vote])
        paper = [(who, made) for who in range(3) for made in (vote[1], ("precommit", 0, 0, "a"))]
        self.assertEqual(keeper.adopt(block="a", paper=paper)[0], (1, ("proposal", 1, 0, "w0x5")))
        archive = module("archive")
        lines = archive.archive_lines(blocks=["a"], papers=[paper])
        self.assertEqual(archive.read_archive(weights=[1, 1, 1], grants=(), lines=lines), [("a", paper)])

    def test_arguments_of_nets_and_scripts_by_their_names(self):
        net = module("net").Net(weights=[1, 1, 1], liars=[2], grants=(7,))
        net.deliver(at=0, to=1)
        net.timeout(to=0)
        net.inject(letter=(2, ("precommit", 0, 0, "a")))
        net.submit(who=0, command=("w", 0, 5))
        self.assertIs(net.assist(to=0, source=1), False)
        net.crash(who=1, torn="")
        self.assertEqual(net.chain(who=0), [])
        script = module("script")
        self.assertEqual(script.event_line(event=("crash", 1)), "crash 1")
        self.assertEqual(script.read_event(line="crash 1", at=0), ("crash", 1))
        lines = ["deliver 0 1", "timeout 0", "inject 2 precommit 0 0 a", "submit 0 w0x5", "assist 0 1", "crash 1"]
        played = script.play(weights=[1, 1, 1], liars=[2], grants=(7,), lines=lines)
        self.assertEqual((played.bag, played.history), (net.bag, net.history))

    def test_the_grants_of_a_net_may_be_left_out(self):
        parameter = inspect.signature(module("net").Net).parameters["grants"]
        self.assertEqual(parameter.default, ())


class Outside(unittest.TestCase):
    def test_the_package_imports_only_itself_and_what_the_language_allows(self):
        for name, tree in trees():
            for node in ast.walk(tree):
                if isinstance(node, ast.Import):
                    self.assertEqual((name, [part.name for part in node.names]), ("__main__.py", ["sys"]))
                if isinstance(node, ast.ImportFrom):
                    self.assertEqual(node.level, 0, name)
                    self.assertIn(node.module.split(".")[0], LIBRARY | {"tribunal", "__future__"}, name)

    def test_the_package_names_nothing_that_reaches_outside(self):
        for name, tree in trees():
            used = {node.id for node in ast.walk(tree) if isinstance(node, ast.Name)}
            allowed = {"print"} if name == "__main__.py" else set()
            self.assertEqual(used & OUTSIDE, allowed & used, name)

    def test_the_same_calls_give_the_same_answers(self):
        first = answers()
        self.assertEqual(first, answers())


class Size(unittest.TestCase):
    def test_files_and_lines_and_functions_are_short_and_plain(self):
        for path in sorted(FOLDER.glob("**/*.py")):
            text = path.read_text(encoding="utf-8")
            lines = text.split("\n")
            self.assertLess(len(lines), 400, path.name)
            self.assertLessEqual(max(len(line) for line in lines), 120, path.name)
            self.assertTrue(all(" " <= sign <= "~" or sign == "\n" for sign in text), path.name)

    def test_functions_are_small(self):
        for name, tree in trees():
            for node in ast.walk(tree):
                if isinstance(node, ast.FunctionDef):
                    self.assertLessEqual(node.end_lineno - node.lineno, 39, (name, node.name))


def answers():
    made = module("committee").Committee([3, 1, 2])
    votes = module("votes")
    book = module("book").Book(made, 0)
    for who, turn in ((2, 0), (0, 0), (0, 1), (1, 1), (2, 1)):
        book.add((who, votes.precommit(0, turn, "a")))
        book.add((who, votes.prevote(0, turn, "a", None)))
    chain = module("chain").Chain([3, 1, 2], [9, 9])
    chain.extend("d0zg1ugyzk1b0v4w1x5p0q1r6")
    net = module("net").Net([3, 1, 2], [], [9])
    for at in range(40):
        for who in range(3):
            net.deliver(at, who)
    return (
        net.bag, net.history, chain.receipts, chain.committee().weights, vars(chain.ledgers[-1]),
        book.letters(), book.certificates, book.commits, module("paper").commit_paper(book, "a"),
        module("commands").commands_of("d1zg1uzw0x2"), vars(module("machine").run("g1uiy", 4, 9, {7: 7, 2: 1})),
        made.weights, made.size, made.total, made.weight_of([2, 0]), made.is_quorum([0, 2]), made.is_third([1]),
        made.leader(5, 9), votes.clash(votes.precommit(0, 0, "a"), votes.prevote(0, 1, "b", None)),
    )


if __name__ == "__main__":
    unittest.main()
