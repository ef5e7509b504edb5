"""Checks that the names of the interface stand where it lists them, with the listed arguments."""

import inspect
import unittest
from importlib import import_module

FUNCTIONS = {
    "states": {
        "empty_state": "(house)", "check_state": "(house, state)", "loads": "(house, state)",
        "call_loads": "(cells, where)", "wide_count": "(state)", "kinds": "(state)",
    },
    "events": {
        "allowed": "(house, state, event)", "fitting": "(state, where)", "with_call": "(state, channel, where)",
        "without_call": "(state, channel, where)", "apply_record": "(house, state, record)",
    },
    "notation": {
        "house_text": "(house)", "state_text": "(state)", "record_text": "(record)", "parse_house": "(text)",
        "parse_state": "(text)", "parse_record": "(text)",
    },
    "need": {
        "lots": "(cells)", "bearing": "(state)", "outside_count": "(state, lot)", "outside_limit": "(house, lot)",
        "level": "(house, state)", "slack": "(house, state, lot)", "need": "(house, state)",
        "is_safe": "(house, state)", "holds": "(house, state, lot)", "find_lot": "(house, state)",
    },
    "planning": {
        "empty_need": "(limits, *, wide_limit=20)", "carefree_need": "(limits, *, wide_limit=20)",
        "zone": "(house)", "room": "(house)", "greatest_wide_limit": "(house, state)",
        "greatest_limit": "(house, state, cell)", "offers": "(channels, cells, *, wide_limit=20)",
    },
    "kept": {"choose_kept": "(state, rooms)"},
    "plays": {"duel": "(house, state, wishes)", "check_play": "(house, state, records)"},
    "grants": {"grants": "(house, state, where)", "steady_grants": "(house, state, where)"},
    "cellwise": {
        "lowest_free": "(state, cell)", "cellwise_pick": "(state, where)", "is_low": "(house, state)",
    },
    "closing": {
        "rest_house": "(house, closed)", "rest_state": "(state, closed)", "may_close": "(house, state, closed)",
        "closable": "(house, state)",
    },
    "rules": {"pack_rule": "(cells)", "spread_rule": "(cells)"},
    "reached": {
        "size_of": "(house)", "judge_rule": "(house, rule, state)",
        "check_reached": "(house, rule, state, reached)",
    },
    "mending": {
        "calls_to_end": "(house, state)", "apply_moves": "(state, moves)", "moves_to_safety": "(house, state)",
        "pack_moves": "(state, most)", "way_moves": "(state)",
    },
    "nets": {"least_channels": "(net)"},
    "converters": {
        "fit_places": "(net)", "best_chain": "(worths)", "best_ring": "(worths)", "best_bare": "(net, worths)",
        "bare_counts": "(net, most)",
    },
    "lines": {"check_sum": "(text)", "record_line": "(line, body)", "read_lines": "(text)"},
    "desklog": {"desk_log": "(desk)", "open_desk": "(text)"},
}
CLASSES = {
    ("house", "House"): {
        "__init__": "(self, limits, *, channels=8, wide_limit=20)", "cells": None, "greatest": None, "least": None,
        "total": None, "wide_bound": None, "changed": "(self, *, limits=None, channels=None, wide_limit=None)",
    },
    ("states", "Loads"): {
        "__init__": "(self, counts)", "__len__": "(self)", "__iter__": "(self)", "within": "(self, limits)",
    },
    ("adversary", "Adversary"): {"__init__": "(self, house, state)", "next_event": "(self, state)"},
    ("keeper", "Keeper"): {"__init__": "(self, house, state)", "__call__": "(self, state, where)"},
    ("desk", "Desk"): {
        "__init__": "(self, house, state=None)", "__iter__": "(self)", "__len__": "(self)", "state": None,
        "closed": None, "spare": None, "grants": "(self, where)", "come": "(self, where, *, wish=0)",
        "go": "(self, channel, where)", "close": "(self, channel)", "reopen": "(self, channel)",
        "change": "(self, *, limits=None, channels=None, wide_limit=None)", "undo": "(self, count=1)",
        "redo": "(self, count=1)",
    },
    ("rules", "Rule"): {"__init__": "(self, orders)", "__call__": "(self, state, where)", "is_full": "(self)"},
    ("nets", "Net"): {
        "__init__": "(self, links, *, channels=8, bare=())", "house_of": "(self, group)", "parts_of": "(self, route)",
    },
    ("netdesk", "NetDesk"): {
        "__init__": "(self, net)", "__iter__": "(self)", "__len__": "(self)", "loads": None, "greatest_need": None,
        "book": "(self, route, *, wish=0)", "release": "(self, number)", "set_bare": "(self, place)",
        "set_converter": "(self, place)", "route_of": "(self, number)", "channels_of": "(self, number)",
        "group_state": "(self, group)",
    },
    ("agents", "Agent"): {
        "__init__": "(self, net, group, *, log='')", "state": None, "log": None, "calls": "(self)", "ended": "(self)",
        "hear": "(self, letter)", "hear_cut": "(self, letter, keep)",
    },
    ("ledger", "Ledger"): {
        "__init__": "(self, net)", "loads": None, "ask": "(self, route)", "end": "(self, number)",
        "hear": "(self, letter)", "status": "(self, number)", "given": "(self, number)", "unanswered": "(self)",
    },
    ("post", "Post"): {
        "__init__": "(self, net)", "letters": None, "ask": "(self, route)", "end": "(self, number)", "resend": "(self)",
        "deliver": "(self, index)", "double": "(self, index)", "lose": "(self, index)", "cut": "(self, index, keep)",
        "settle": "(self)",
    },
}


class InterfaceTest(unittest.TestCase):
    def test_functions(self):
        for module, names in FUNCTIONS.items():
            for name, arguments in names.items():
                with self.subTest(module=module, name=name):
                    found = getattr(import_module(f"unmovedways.{module}"), name)
                    self.assertTrue(inspect.isfunction(found))
                    self.assertEqual(found.__module__, f"unmovedways.{module}")
                    self.assertEqual(str(inspect.signature(found)), arguments)

    def test_classes(self):
        for (module, name), methods in CLASSES.items():
            found = getattr(import_module(f"unmovedways.{module}"), name)
            self.assertTrue(inspect.isclass(found))
            self.assertEqual(found.__module__, f"unmovedways.{module}")
            for method, arguments in methods.items():
                with self.subTest(name=name, method=method):
                    own = vars(found)[method]
                    if arguments is None:
                        self.assertIsInstance(own, property)
                    else:
                        self.assertEqual(str(inspect.signature(own)), arguments)


if __name__ == "__main__":
    unittest.main()
