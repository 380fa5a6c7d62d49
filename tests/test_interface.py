"""The interface: names, arguments and files, as the document lists them."""

import importlib
import inspect
import unittest

FUNCTIONS = {
    "kinds": {"is_integer": "(thing)", "is_name": "(thing)", "is_word": "(thing)", "is_number": "(many, thing)"},
    "joins": {"chain_joins": "(many)", "union_joins": "(many)", "first_fall": "(joins, values)",
              "first_loss": "(joins, values)", "rising_maps": "(joins)", "all_joins": "(many)"},
    "programs": {"line_program": "(word)"},
    "facts": {"facts_of": "(analysis, program)", "is_solution": "(analysis, program, thing)"},
    "rises": {"rise_of": "(analysis, program)", "is_rise": "(analysis, program, thing)"},
    "paths": {"path_values": "(analysis, program, place)", "path_fact": "(analysis, program, place)",
              "word_to": "(analysis, program, place, value)", "lost": "(analysis, program)",
              "words_to": "(program, place, length)"},
    "follows": {"follow_of": "(one, other)", "rank_rows": "(one, other)", "is_follow": "(one, other, thing)",
                "is_within": "(one, place, other, there)", "are_ranks": "(one, other, thing)"},
    "patterns": {"is_pattern": "(thing)", "has_pattern": "(program, place, pattern)", "pattern_depth": "(pattern)",
                 "pattern_of": "(one, place, other, there)", "shown_program": "(one, place, other, there)"},
    "words": {"has_word": "(program, place, word)", "are_word_rows": "(one, place, other, there, thing)",
              "compare_words": "(one, place, other, there, *, most=1000)"},
    "pairs": {"pair_list": "(one, other, *, most=600)", "pair_layers": "(one, other, *, most=600)",
              "is_closed": "(one, other, thing)", "made_program": "(one, other, pair, *, most=600)",
              "holds_for": "(one, other, relation, *, most=600)",
              "are_alike": "(one, mine, other, its, *, most=600)"},
    "losses": {"loss_of": "(analysis)", "are_tables": "(analysis, thing)", "is_loss": "(analysis, thing)",
               "is_fewest": "(analysis, many, thing)", "losing_program": "(words, statement)"},
    "contexts": {"context_of": "(analysis, answers, value, other)",
                 "is_context": "(analysis, answers, value, other, thing)"},
    "least": {"least_of": "(analysis, answers)", "least_paper": "(analysis, answers)",
              "stands_for": "(analysis, answers, name, other)", "is_least_paper": "(analysis, answers, thing)",
              "onto": "(one, mine, other, its, *, most=600)"},
    "exact": {"exact_of": "(analysis)", "exactness": "(analysis, answers, *, most=600)"},
    "likes": {"least_form": "(analysis, answers)", "same_values": "(one, mine, other, its)"},
    "mirrors": {"mirror_of": "(program, statements, *, most=64)", "word_mirror": "(word, statements, *, most=64)"},
    "parting": {"parting_of": "(one, place, other, there, *, most=64)",
                "word_parting": "(one, place, other, there, *, most=64)",
                "is_parting": "(one, place, other, there, thing)"},
    "machines": {"states_at": "(machine, program)", "collecting": "(machine)"},
    "sound": {"sound_for": "(analysis, meanings, machine)", "just_for": "(analysis, meanings, machine)",
              "are_sound_pairs": "(analysis, meanings, machine, thing)",
              "is_unsound": "(analysis, meanings, machine, thing)"},
    "best": {"are_meanings": "(joins, machine, thing)", "best_value": "(joins, meanings, some)",
             "best_of": "(joins, meanings, machine)"},
    "small": {"small_program": "(program, asked)", "are_like_places": "(one, places, other, others)"},
    "notation": {"show_word": "(word)", "show_joins": "(joins)", "show_analysis": "(analysis)",
                 "show_program": "(program)", "show_deed": "(deed)", "show_log": "(book)", "read_word": "(text)",
                 "read_joins": "(text)", "read_analysis": "(text)", "read_program": "(text)", "read_deed": "(text)",
                 "read_log": "(analysis, text)"},
}

CLASSES = {
    ("errors", "FlowError"): {},
    ("errors", "Wrong"): {"__init__": "(self, place)"},
    ("errors", "BadJoin"): {"__init__": "(self, which)"},
    ("errors", "NoRise"): {"__init__": "(self, name, low, high)"},
    ("errors", "NoStatement"): {"__init__": "(self, name)"},
    ("errors", "NoPlace"): {"__init__": "(self, place)"},
    ("errors", "Unreached"): {"__init__": "(self, place)"},
    ("errors", "Unlike"): {"__init__": "(self)"},
    ("errors", "TooMany"): {"__init__": "(self, limit)"},
    ("errors", "Absent"): {"__init__": "(self, value)"},
    ("errors", "Full"): {"__init__": "(self, limit)"},
    ("errors", "NoDeed"): {"__init__": "(self)"},
    ("errors", "Nothing"): {"__init__": "(self)"},
    ("errors", "Refused"): {"__init__": "(self, deed)"},
    ("errors", "NoEntry"): {"__init__": "(self, at)"},
    ("errors", "NoText"): {"__init__": "(self)"},
    ("errors", "NoCommand"): {"__init__": "(self)"},
    ("joins", "Joins"): {
        "__init__": "(self, rows)", "__mul__": "(self, other)", "__eq__": "(self, other)", "__len__": "(self)",
        "__repr__": "(self)", "rows": "(self)", "join": "(self, u, v)", "join_all": "(self, values)",
        "is_below": "(self, u, v)", "below": "(self, u)", "above": "(self, u)", "top": "(self)", "bottom": "(self)",
        "meet": "(self, u, v)", "covers": "(self)", "height": "(self)", "parts": "(self)",
        "closed": "(self, values)", "moved": "(self, order)"},
    ("analyses", "Analysis"): {
        "__init__": "(self, joins, maps, *, begin=0)", "__mul__": "(self, other)", "__eq__": "(self, other)",
        "__len__": "(self)", "__repr__": "(self)", "joins": property, "begin": property, "statements": "(self)",
        "map_of": "(self, name)", "do": "(self, word, *, value=None)", "without": "(self, names)",
        "unkept": "(self)", "coming": "(self)", "word_values": "(self)", "restricted": "(self)",
        "with_map": "(self, name, values)", "renamed": "(self, changes)", "moved": "(self, order)"},
    ("programs", "Program"): {
        "__init__": "(self, places, begins, edges)", "__add__": "(self, other)", "__eq__": "(self, other)",
        "__repr__": "(self)", "places": property, "begins": "(self)", "edges": "(self)", "statements": "(self)",
        "into": "(self, place)", "out_of": "(self, place)", "reached": "(self)", "leading": "(self, asked)",
        "with_edges": "(self, edges)", "without_edges": "(self, edges)", "with_begins": "(self, places)",
        "turned": "(self, place)", "renamed": "(self, changes)", "moved": "(self, order)", "kept": "(self, places)"},
    ("machines", "Machine"): {
        "__init__": "(self, states, firsts, moves)", "__eq__": "(self, other)", "__repr__": "(self)", "states": property,
        "firsts": "(self)", "statements": "(self)", "moves": "(self, name)", "step": "(self, some, name)",
        "after": "(self, word)"},
    ("book", "Book"): {
        "__init__": "(self, analysis)", "__eq__": "(self, other)", "__len__": "(self)", "do": "(self, deed)",
        "back": "(self)", "again": "(self)", "analysis": "(self)", "program": "(self)", "past": "(self, many)",
        "facts": "(self)", "log": "(self)", "copied": "(self)"},
    ("desk", "Desk"): {"__init__": "(self, analysis)", "execute": "(self, line)"},
}

GENERATORS = [("joins", "rising_maps"), ("joins", "all_joins"), ("paths", "words_to")]


def module(name):
    return importlib.import_module(f"factflows.{name}")


class InterfaceTest(unittest.TestCase):
    def test_functions_stand_in_their_files(self):
        for name, functions in FUNCTIONS.items():
            for function, signature in functions.items():
                thing = getattr(module(name), function)
                self.assertTrue(inspect.isfunction(thing))
                self.assertEqual(thing.__module__, f"factflows.{name}")
                self.assertEqual(str(inspect.signature(thing)), signature, function)

    def test_classes_stand_in_their_files_with_their_own_methods(self):
        for (name, where), methods in CLASSES.items():
            thing = getattr(module(name), where)
            self.assertTrue(inspect.isclass(thing))
            self.assertEqual(thing.__module__, f"factflows.{name}")
            for method, signature in methods.items():
                self.assertIn(method, vars(thing), where)
                own = vars(thing)[method]
                if signature is property:
                    self.assertIsInstance(own, property)
                else:
                    self.assertEqual(str(inspect.signature(own)), signature, f"{where}.{method}")

    def test_generators(self):
        for name, function in GENERATORS:
            self.assertTrue(inspect.isgeneratorfunction(getattr(module(name), function)))


if __name__ == "__main__":
    unittest.main()
