"""The files of the package keep to the language, and define what the interface lists."""

import ast
import unittest

from tests import language

INTERFACE = {
    "errors": "LotError BadWeb BadBench BadMachine BadNumber TooMany BadTerm BadSaying BadText BadName NoLot TooGreat "
    "BadLot BadOrder OtherBench OtherTracks NotOnTrees NotWeb NotPicked",
    "cuts": "is_int check_number cut",
    "webs": "Web lot_of moved equal_by symmetries",
    "benches": "Bench",
    "terms": "check_term size_of many_of is_narrow web_of labels_of tracks_of colour bare put leaf_at changed hung "
    "all_terms",
    "lots": "is_name is_place_name check_expression names_in lot_by",
    "sayings": "check_saying free_names counts_of is_plain nest_of put_in both_of either_of",
    "texts": "written read_saying",
    "meanings": "means fitting number_fitting",
    "machines": "Machine bits_number bits_of Answer",
    "founds": "first_terms reached useful way_out",
    "leasts": "least in_order groups apart",
    "steps": "pairs sets_without rows_without moved_letters common",
    "atoms": "atom_machine",
    "compiler": "machine_of name_machine",
    "verdicts": "agree parting_term always never fitting_term counter_term gives giving_term says_same parting_lots",
    "forms": "tree_row tree_term place_states exchange_way",
    "hanging": "is_web_machine joins_alike two_terms",
    "rings": "steps_of run_in ring counts_told ring_witness",
    "backs": "back code_lots",
    "bounds": "order_of num_bound",
    "gathers": "Gather",
    "partings": "is_parted inseparable parting between least_parting",
    "unmoved": "lots_of is_unmoved unmoved_lots equal_children has_three",
    "marks": "MarkTable",
    "picks": "can_pick no_pick picked picker greatest_saying",
    "numbers": "number_row number_of rests_of rest_term",
    "fractions": "solved rank_of determinant kernel",
    "relations": "Relations as_many",
    "ranks": "Rank turns_of",
    "bests": "best best_many best_lot ends Weigh",
    "families": "Family",
    "closings": "broken closing_saying closed_everywhere breaking",
    "against": "weights_against holds_against best_same best_against",
    "greedy": "greedy exchanges greedy_against",
    "prices": "gain Prices at_most",
    "shares": "Shares",
    "sizes": "Sizes",
    "pumped": "map_of pumped_state pumped_size",
    "narrow": "Narrow",
    "growth": "Growth",
    "tables": "least_size LeastSizes",
}
CLASSES = {
    "Web": "__init__ __eq__ __len__ __iter__ arrow sent renumbered of_lot",
    "Bench": "__init__ __eq__ __len__ trees boughs cotrees narrow_rows",
    "Machine": "__init__ __eq__ __len__ states state answers state_in accepting told __invert__ __and__ __or__ __xor__",
    "Answer": "__init__ __call__",
    "Gather": "__init__ __len__ __iter__ __contains__ number one some_of made meets",
    "MarkTable": "__init__ __iter__ number mark_of tree_for fits picks",
    "Relations": "__init__ terms rank told_rows base row_of holds broken_at share_of",
    "Rank": "__init__ rank contexts terms table told_by",
    "Weigh": "__init__ __call__",
    "Family": "__init__ __contains__ __len__ __iter__ __eq__ __and__ __or__ of tops top_weight best_family held looks",
    "Prices": "__init__ bounded bound top prices loop",
    "Shares": "__init__ highest lowest over under loop_high loop_low fixed",
    "Sizes": "__init__ __contains__ start period members rests term state_sizes",
    "Narrow": "__init__ live firsts letters first_row ways word total",
    "Growth": "__init__ kind links chain double_loop number_rows greatest pumped",
    "LeastSizes": "__init__ bounded greatest top size_rows row_of pumped",
}


class LanguageTest(unittest.TestCase):
    def test_rules(self):
        self.assertEqual(language.all_wrong(), [])

    def test_files(self):
        self.assertEqual(language.strange_files(), [])

    def test_no_circles(self):
        self.assertEqual(language.in_circles(), [])

    def test_names_of_properties(self):
        self.assertEqual(language.doubled_names(), [])
        self.assertEqual(language.impure_properties(), [])

    def test_interface_is_defined_where_it_is_listed(self):
        package = language.Package()
        for module, names in INTERFACE.items():
            for name in names.split():
                self.assertIn(name, package.defined[module], module)

    def test_methods_stand_in_their_class(self):
        found = {}
        for path in language.PACKAGE.glob("*.py"):
            for node in ast.parse(path.read_text()).body:
                if isinstance(node, ast.ClassDef):
                    found[node.name] = [part.name for part in node.body if isinstance(part, ast.FunctionDef)]
        for name, methods in CLASSES.items():
            for method in methods.split():
                self.assertIn(method, found[name], name)
