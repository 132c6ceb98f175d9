"""The interface of the document: each name in its file, with its arguments."""

import ast
import pathlib
import unittest

PACKAGE = pathlib.Path(__file__).resolve().parent.parent / "switchyard"

FUNCTIONS = {
    "kinds": ["is_of(kind, word)"],
    "readings": ["readings(table, words)"],
    "reader": ["read(table, words)"],
    "tabletexts": ["read_table(text)", "write_table(table)"],
    "helptexts": ["help_text(table, name, width)"],
    "laying": ["laid(table, reading, defaults)"],
    "lines": ["split_line(line)", "write_line(words)", "shortest_line(words)"],
    "reasons": ["reasons(table, words)"],
    "aliases": ["expanded(aliases, words)", "used_aliases(aliases, words)", "ringed(aliases)"],
    "machines": ["measures(table)"],
    "clear": ["judge_clear(table)"],
    "parting": ["judge_extends(old, new)", "judge_alike(one, other)"],
    "greed": ["judge_greedy(table)", "is_read_greedily(table, words)"],
    "spelling": ["spelled(table, reading)"],
    "goingon": ["going_on(table, words, beginning)"],
    "usage": ["used_by(table)", "needless(table)", "sure_beginnings(table)", "judge_free(table, name)"],
    "readers": ["judge_readers(old, new)", "judge_readers_alike(one, other)"],
    "marking": ["kinds_in(table, words)", "first_wrong(table, words)"],
    "mending": ["mend(table, words, most)"],
    "counting": ["count_lists(table, length)"],
    "smaller": ["without(table, name)", "renamed(table, names)", "command_alone(table, name)"],
    "settings": ["read_settings(table, text)", "write_settings(table, comings)", "settled(reading, settings)"],
    "firsts": ["first_lists(table, many)"],
}

CLASSES = {
    "errors": {
        "SwitchError": [], "BadPart": ["__init__(self, part)"], "BadWords": ["__init__(self, number)"],
        "BadText": ["__init__(self, line, column)"], "BadLine": ["__init__(self, column)"],
        "BadLaying": ["__init__(self, name)"], "BadAlias": ["__init__(self, name)"],
        "BadSetting": ["__init__(self, line)"], "TooLarge": ["__init__(self, number)"],
    },
    "judgeerrors": {"NotClear": ["__init__(self, twice)"], "BadName": ["__init__(self, name)"]},
    "tables": {
        "Option": ["__init__(self, name, letter, takes, low=0, high=None)", "__eq__(self, other)"],
        "Operand": ["__init__(self, name, kind, few=1, many=1)", "__eq__(self, other)"],
        "Table": ["__init__(self, options, operands=(), commands=None, traits=(), conditions=())", "__eq__(self, other)",
                  "option(self, name)"],
    },
    "readings": {"Reading": ["__init__(self, options, operands, command)", "__eq__(self, other)", "key(self)"]},
    "reader": {"Refused": ["__init__(self, number)", "__eq__(self, other)", "__bool__(self)"]},
    "machines": {"Machine": ["__init__(self, table)", "moves(self, place, sign)", "is_end(self, place)"]},
    "clear": {
        "Clear": ["__init__(self, lags, dead)", "__eq__(self, other)", "__bool__(self)", "shows(self, table)"],
        "Twice": ["__init__(self, words, one, other)", "__eq__(self, other)", "__bool__(self)", "shows(self, table)"],
    },
    "parting": {"Parted": ["__init__(self, words, one, other)", "__eq__(self, other)", "shows(self, one, other)"]},
    "goingon": {"GoingOn": ["__init__(self, signs, word, is_end)", "__eq__(self, other)"]},
    "readers": {"ReadersParted": ["__init__(self, words, one, other)", "__eq__(self, other)", "shows(self, one, other)"]},
    "mending": {"Mended": ["__init__(self, number, words)", "__eq__(self, other)"]},
}


def defined(module):
    return ast.parse((PACKAGE / f"{module}.py").read_text(encoding="ascii")).body


def head(function):
    return f"{function.name}({ast.unparse(function.args)})"


class Interface(unittest.TestCase):
    def test_functions(self):
        for module, heads in FUNCTIONS.items():
            found = [head(node) for node in defined(module) if isinstance(node, ast.FunctionDef)]
            for one in heads:
                self.assertIn(one, found, module)

    def test_classes(self):
        for module, classes in CLASSES.items():
            found = {node.name: node for node in defined(module) if isinstance(node, ast.ClassDef)}
            for name, heads in classes.items():
                methods = [head(node) for node in found[name].body if isinstance(node, ast.FunctionDef)]
                for one in heads:
                    self.assertIn(one, methods, (module, name))

    def test_marks(self):
        names = [node.targets[0].id for node in defined("machines") if isinstance(node, ast.Assign)]
        self.assertIn("CAME", names)
        self.assertIn("STOP", names)

    def test_errors_stand_directly_below_the_first_one(self):
        for module in ["errors", "judgeerrors"]:
            for name in CLASSES[module]:
                node = [one for one in defined(module) if isinstance(one, ast.ClassDef) and one.name == name][0]
                base = "ValueError" if name == "SwitchError" else "SwitchError"
                self.assertEqual([ast.unparse(one) for one in node.bases], [base])


if __name__ == "__main__":
    unittest.main()
