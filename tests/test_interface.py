"""The interface: each name is defined in its own file, each method in its class."""

import ast
import inspect
import pathlib
import unittest

PACKAGE = pathlib.Path(__file__).resolve().parent.parent / "leasehall"

FUNCTIONS = {
    "records": {
        "contains": "cover key",
        "meets": "first second",
        "includes": "outer inner",
        "touches": "group cover",
        "is_group": "writes",
        "cover_of": "question",
        "ask": "records question",
        "apply": "records group",
    },
    "ledger": {
        "at": "ledger moment",
        "moment_at": "ledger time",
        "first_touch": "ledger moment covers",
    },
    "promises": {
        "reach": "ledger questions moment",
        "results": "ledger questions moment",
        "is_right": "ledger time floor read answer",
    },
    "checker": {
        "is_true": "ledger leases time statement",
        "accepts": "ledger leases time floor read answer",
    },
    "paging": {
        "oldest_removals": "keys places",
        "farthest_removals": "keys places",
        "is_valid": "keys places removals",
        "fetch_count": "keys places removals",
        "phase_starts": "keys places",
    },
    "ring": {
        "spot": "text",
    },
    "notation": {
        "write_event": "event",
        "write_history": "world",
        "read_event": "line",
        "read_history": "lines",
    },
    "views": {
        "ask_view": "records question",
        "make_view": "question records",
    },
    "crediting": {
        "credit_removals": "keys places costs",
        "removal_cost": "keys places removals costs",
    },
    "routing": {
        "route": "ring up key",
        "route_questions": "ring up questions",
        "moves": "before after keys",
    },
    "bundles": {
        "pack": "letters limit",
        "unpack": "bundles",
        "receiver": "item",
    },
    "lettertext": {
        "write_letter": "letter",
        "read_letter": "line",
        "write_answer": "answer questions",
        "read_answer": "text questions",
    },
    "transcript": {
        "write_transcript": "lines",
    },
    "auditor": {
        "audit": "lines",
    },
    "explorer": {
        "outcomes": "lines depth",
    },
    "shorten": {
        "shorten": "lines number",
    },
    "rates": {
        "rate": "numerator denominator",
        "share": "world",
        "mean_wait": "world",
        "mean_lag": "world",
    },
}
CLASSES = {
    "errors": {
        "CacheError": {},
        "NotFound": {},
        "Full": {},
        "IsDown": {},
        "IsUp": {},
        "Malformed": {"__init__": "self index"},
    },
    "store": {
        "Store": {
            "__init__": "self host_count lease_length",
            "handle": "self letter time",
            "settle": "self time",
            "beat": "self time",
            "fall": "self",
            "rise": "self time",
            "is_up": "self",
            "moment": "self",
            "ledger": "self",
            "pending": "self",
            "leases": "self",
        }
    },
    "network": {
        "Network": {
            "__init__": "self",
            "send": "self is_up letter",
            "letters": "self",
            "deliver": "self index",
            "lose": "self index",
            "double": "self index",
        }
    },
    "entries": {
        "Entry": {
            "__init__": "self cover moment records stamp",
            "weight": "self",
            "answers": "self question",
            "patch": "self group",
            "told": "self",
        }
    },
    "host": {
        "Host": {
            "__init__": "self index room error_bound",
            "handle": "self letter reading floors",
            "ask": "self read reading floors",
            "nudge": "self reading floors",
            "write": "self session group",
            "open_fetch": "self cover",
            "open_lease": "self cover",
            "fall": "self",
            "give_up": "self number",
            "incarnation": "self",
            "mark": "self",
            "waiting": "self",
            "entries": "self",
            "leases": "self",
            "statements": "self",
            "requests": "self",
        }
    },
    "ring": {
        "Ring": {
            "__init__": "self",
            "add": "self host places",
            "remove": "self host",
            "hosts": "self",
            "points": "self",
            "homes": "self key",
            "home": "self key",
        }
    },
    "world": {
        "World": {
            "__init__": "self rooms error_bound lease_length",
            "act": "self event",
            "calm_round": "self",
            "time": "self",
            "reading": "self host",
            "floors": "self",
            "letters": "self",
            "crowded_out": "self",
            "store": "self",
            "host": "self index",
            "is_up": "self host",
            "answers": "self",
            "history": "self",
            "waiting": "self",
        }
    },
    "views": {
        "View": {
            "take": "self group",
            "answer": "self",
        }
    },
    "board": {
        "Board": {
            "__init__": "self",
            "add": "self number question records moment",
            "remove": "self number",
            "note": "self c group",
            "mark": "self",
            "numbers": "self",
            "answer": "self number",
        }
    },
    "relay": {
        "Relay": {
            "__init__": "self index below room error_bound",
            "take_down": "self letter reading",
            "take_up": "self letter reading",
            "beat": "self",
            "nudge": "self reading",
            "fall": "self",
            "host": "self",
            "holders": "self",
        }
    },
    "auditor": {
        "Auditor": {
            "__init__": "self",
            "read": "self line",
            "findings": "self",
            "ledger": "self",
            "time": "self",
            "floors": "self",
        }
    },
    "tower": {
        "Tower": {
            "__init__": "self relay_room rooms error_bound lease_length",
            "act": "self event",
            "time": "self",
            "floors": "self",
            "answers": "self",
            "waiting": "self",
            "letters": "self net",
            "store": "self",
            "relay": "self",
            "host": "self index",
            "is_up": "self who",
        }
    },
}


def definitions(nodes, kind):
    return {node.name: node for node in nodes if isinstance(node, kind)}


def parameters(function):
    return " ".join(argument.arg for argument in function.args.args)


class Interface(unittest.TestCase):
    def body(self, name):
        return ast.parse((PACKAGE / (name + ".py")).read_text()).body

    def test_functions(self):
        for name, functions in FUNCTIONS.items():
            defined = definitions(self.body(name), ast.FunctionDef)
            for function, names in functions.items():
                self.assertEqual(parameters(defined[function]), names, (name, function))

    def test_classes(self):
        for name, classes in CLASSES.items():
            defined = definitions(self.body(name), ast.ClassDef)
            for word, methods in classes.items():
                found = definitions(defined[word].body, ast.FunctionDef)
                for method, names in methods.items():
                    self.assertEqual(parameters(found[method]), names, (word, method))

    def test_modules_import(self):
        for name in list(FUNCTIONS) + list(CLASSES):
            module = __import__("leasehall." + name, fromlist=["x"])
            self.assertTrue(inspect.ismodule(module))


if __name__ == "__main__":
    unittest.main()
