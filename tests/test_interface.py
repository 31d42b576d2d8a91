"""The interface, as far as it has landed: each name in its file, with its arguments."""

import ast
import unittest

from tests.test_language import TREES

INTERFACE = {
    "forms": """is_integer(thing) is_number(thing) is_small(thing) is_great(thing) is_name(thing) is_label(thing) is_maker(thing)
        is_kind(thing) is_scheme(thing) is_declarations(thing) is_pattern(thing) is_term(thing) is_program(thing) is_place(thing)
        is_lot(thing) wrapped(number)""",
    "trees": """parts_of(term) with_parts(term,parts) part_at(term,place) with_part(term,place,part) plain_names(term) places_of(term)
        size_of(term) names_of(pattern) makers_of(pattern) free_names(term) bound_at(term,place) is_settled(term)
        are_alike(one,other)""",
    "wordsof": "words_of(text)",
    "reader": "read_kind(text) read_pattern(text) read_term(text) read_program(text)",
    "shower": "show_kind(kind) show_pattern(pattern) show_term(term) show_program(program)",
    "modules": """is_module(thing) values_of(module) module_kinds(module) makers_in(module) given_values(module) given_kinds(module)
        given_makers(module) outer_names(module)""",
    "moduletexts": "read_modules(text) show_modules(modules)",
    "joining": "order_of(modules,name) joined(modules,name) items_at(modules,name) whose(modules,name,place)",
    "kinds": """variables_in(kind) rests_in(kind) are_fit(kinds) is_substitution(thing) field_kind(kind,label) put_in(kind,sub)
        put_after(one,other) size_of_kind(kind)""",
    "unify": "unify(pairs) is_unifier(pairs,thing) first_clash(pairs)",
    "schemes": """scheme_of(kind) instance_by(scheme,kind) matched(kind,other,lot) is_instance(scheme,kind) is_more_general(one,other)
        common_instance(one,other)""",
    "derivations": """binder_of(term,place) maker_of(declarations,maker) specialised(thing,sub)
        pattern_kinds(declarations,pattern,kind) is_derivation(program,lot,thing) broken_rules(program,lot,thing)""",
    "checker": """derivation_of(program,lot) has_derivation(program,lot) scheme_of_program(program) has_scheme(program,scheme)
        spread_out(program)""",
    "lots": """all_places(program) least_mending(program) least_lot(program) has_kinds(program,lot) mends(program,lot)
        is_least_lot(program,thing) are_lots_apart(program,thing) is_least_mending(program,thing) least_lots_in(program,lot)
        greatest_lots_in(program,lot) lots_apart(program)""",
    "patterns": "bindings(pattern,value) first_row(patterns,value) meet(one,other) lies_in(one,other)",
    "missing": """missing(declarations,kind,patterns) left_to(declarations,kind,patterns,index)
        is_missing(declarations,kind,patterns,thing) is_left_to(declarations,kind,patterns,index,thing)
        is_plain(declarations,kind) needless(declarations,kind,patterns) some_value(declarations,kind,pattern)""",
    "taking": "first_unwhole(program) needless_rows(program) is_taken(program) taken(program)",
    "values": "is_value(thing) is_env(thing) narrowed(env,names) widened(env,more) cells_in(value) show_value(value)",
    "steps": "first_state(term) next_state(state)",
    "runs": """states_of(term,most) run_of(term,most) reached_cells(state) trimmed(state) deepest(states)
        is_of_kind(declarations,kind,thing)""",
    "words": "immediate(sort,content) sort_of(word) content_of(word) is_word(thing) is_row(thing) is_code(thing)",
    "heap": """header_of(sort,extra,many) size_at(heap,address) read_header(word) object_at(heap,address)
        with_object(heap,address,sort,extra,fields)""",
    "collector": "reached(heap,roots) collected(heap,room,half,roots) reached_words(heap,roots)",
    "machine": "roots(machine) end_of(code,room,plan,most)",
    "scopes": "captures_of(sort) wheres_of(scope,names) scope_within(functions,f)",
    "compiler": "code_of(program) laid(declarations,term) depths_of(code) greatest_depth(code)",
    "readback": """value_of(machine,word) word_at(machine,base,own,where) env_of(machine,base,own,wheres) activations(machine)
        state_of(machine)""",
    "sidebyside": """marks_of(program,room,plan,most) are_marks(program,room,plan,thing) alike_by_plans(program,room,plans,most)
        silent_rows(marks) strides(marks) ends_alike(program,room,plan,most)""",
    "rooms": """needs_of(code,most) piles_of(code,most) calls_open(code,most) least_room(code,most) greatest_pile(code,most)
        room_lacks(code,room,most)""",
    "bench": "verdict(bench,name) scheme_at(bench,name) run_at(bench,name,room,plan,most)",
}
CLASSES = {
    ("machine", "Machine"): "__init__(self,code,room,plan) step(self) run(self,most) shown(self) code(self) room(self) plan(self) twin(self)",
    ("bench", "Bench"): """__init__(self) put(self,text) take(self,name) swear(self,name,scheme) free(self,index) undo(self) texts(self)
        oaths(self) twin(self) __eq__(self,other)""",
}


class InterfaceTest(unittest.TestCase):
    def test_functions(self):
        for name, told in INTERFACE.items():
            defined = {}
            for node in TREES[f"{name}.py"].body:
                if isinstance(node, ast.FunctionDef):
                    defined[node.name] = [arg.arg for arg in node.args.args]
            for one in told.split():
                called, arguments = one[:-1].split("(")
                self.assertEqual(defined.get(called), arguments.split(","), f"{name}.{called}")

    def test_classes(self):
        for (name, called), told in CLASSES.items():
            found = [node for node in TREES[f"{name}.py"].body if isinstance(node, ast.ClassDef) and node.name == called]
            self.assertEqual(len(found), 1)
            methods = {node.name: [arg.arg for arg in node.args.args] for node in found[0].body if isinstance(node, ast.FunctionDef)}
            for one in told.split():
                method, arguments = one[:-1].split("(")
                self.assertEqual(methods.get(method), arguments.split(","), f"{called}.{method}")


if __name__ == "__main__":
    unittest.main()
