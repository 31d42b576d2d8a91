"""The examples of the document, as they stand there."""

import doctest
import unittest

BEHIND_14 = r"""
>>> from kindsworn.forms import is_declarations, is_kind, is_name, is_pattern, is_program, is_scheme, is_small, wrapped
>>> from kindsworn.trees import are_alike, bound_at, free_names, is_settled, names_of, part_at, parts_of, places_of, plain_names
>>> from kindsworn.trees import size_of, with_part
>>> num, x, y = ("num",), ("name", "x"), ("name", "y")
>>> [wrapped(2147483648), is_small("get"), is_small("getX_1"), is_name("List.map"), is_name("list.map")]
[-2147483648, False, True, True, False]
>>> [is_kind(("record", (("a", num),), ("var", 0))), is_kind(("to", ("var", 0), ("record", (), ("var", 0)))), is_kind(("tuple", (num,)))]
[True, False, False]
>>> [is_scheme((2, ("to", ("var", 0), ("var", 1)))), is_scheme((2, ("to", ("var", 1), ("var", 0))))]
[True, False]
>>> option = ("Option", 1, (("None", None), ("Some", ("var", 0))))
>>> [is_declarations((option,)), is_declarations((option, option)), is_pattern(("tuple", (("bind", "x"), ("bind", "x"))))]
[True, False, False]
>>> term = ("let", "x", ("num", 1), ("fn", "y", ("op", "+", x, y)))
>>> [places_of(term), size_of(term), part_at(term, (1, 0, 0)), parts_of(("make", "None", None))]
[((), (0,), (1,), (1, 0), (1, 0, 0), (1, 0, 1)), 6, ('name', 'x'), ()]
>>> [bound_at(term, (0,)), bound_at(term, (1, 0)), free_names(part_at(term, (1,))), is_settled(part_at(term, (1,))), is_settled(("op", "+", x, y))]
[(), ('x', 'y'), ('x',), True, False]
>>> [names_of(("make", "Some", ("tuple", (("bind", "b"), ("any",), ("bind", "a"))))), plain_names(part_at(term, (1,)))]
[('a', 'b'), ('fn', 'v0', ('op', '+', ('name', 'x'), ('name', 'v0')))]
>>> [are_alike(("fn", "x", x), ("fn", "y", y)), are_alike(("fn", "x", y), ("fn", "y", y)), with_part(("new", x), (0,), y)]
[True, False, ('new', ('name', 'y'))]
>>> row = (("make", "Some", ("bind", "x")), x)
>>> [is_program(((option,), ("match", ("make", "None", None), (row,)))), is_program(((), ("match", ("num", 1), (row,)))), is_program(((), x))]
[True, False, False]
"""

BEHIND_18 = r"""
>>> from kindsworn.reader import read_kind, read_pattern, read_program, read_term
>>> from kindsworn.shower import show_kind, show_pattern, show_program, show_term
>>> from kindsworn.wordsof import words_of
>>> words_of("let x =\n ~5in List.map # a remark")
[('let', 0, 0), ('x', 0, 4), ('=', 0, 6), ('~5', 1, 1), ('in', 1, 3), ('List.map', 1, 6)]
>>> read_kind("(num -> truth) -> {a: cell num | ?0}")
('to', ('to', ('num',), ('truth',)), ('record', (('a', ('cell', ('num',))),), ('var', 0)))
>>> show_kind(("of", "List", (("of", "Option", (("num",),)), ("tuple", (("num",), ("to", ("var", 0), ("var", 1)))))))
'List (Option num) (num, ?0 -> ?1)'
>>> [read_pattern("Cons (x, _)"), show_pattern(("make", "Some", ("make", "Some", ("num", -1))))]
[('make', 'Cons', ('tuple', (('bind', 'x'), ('any',)))), 'Some (Some ~1)']
>>> [read_term("f x.a 1"), read_term("a - b - 1 * 2") == read_term("((a - b)) - (1 * 2)")]
[('call', ('call', ('name', 'f'), ('field', ('name', 'x'), 'a')), ('num', 1)), True]
>>> term = ("call", ("get", ("name", "c")), ("op", "+", ("make", "None", None), ("fn", "x", ("name", "x"))))
>>> show_term(term)
'(get c) (None + (fn x -> x))'
>>> show_term(read_term("rec f = fn x -> if x < 1 then () else f (x - 1) in match f 3 with | () -> put r (new {a = 1}) end"))
'rec f = fn x -> if x < 1 then () else f (x - 1) in match f 3 with | () -> put r (new {a = 1}) end'
>>> program = read_program("kind List ?0 = Nil | Cons (?0, List ?0) give Cons (1, Nil)")
>>> [program[0], show_program(program)]
[(('List', 1, (('Nil', None), ('Cons', ('tuple', (('var', 0), ('of', 'List', (('var', 0),))))))),), 'kind List ?0 = Nil | Cons (?0, List ?0)\ngive Cons (1, Nil)']
"""

BEHIND_22 = r"""
>>> from kindsworn.errors import Hidden
>>> from kindsworn.joining import items_at, joined, order_of, whose
>>> from kindsworn.modules import given_kinds, given_makers, given_values, is_module, makers_in, outer_names, values_of
>>> from kindsworn.moduletexts import read_modules, show_modules
>>> from kindsworn.shower import show_term
>>> head = "module List\nkind List ?0 = Nil | Cons (?0, List ?0)\n"
>>> work = "rec length = fn l -> match l with | Nil -> 0 | Cons (_, t) -> length t + 1 end\nlet one = fn x -> Cons (x, Nil)\n"
>>> tail = "module Main\nuse List\nlet main = List.length (List.one 5)"
>>> modules = read_modules(head + work + "give length, one, kind List\n" + tail)
>>> [show_modules(modules[1:]) == tail, values_of(modules[0]), makers_in(modules[0]), given_kinds(modules[0]), given_makers(modules[0])]
[True, ('length', 'one'), ('Cons', 'Nil'), ('List',), ()]
>>> [modules[0][3], outer_names(modules[1]), order_of(modules, "Main"), order_of(modules, "List")]
[(('value', 'length'), ('value', 'one'), ('kind', 'List')), ('List.length', 'List.one'), ('List', 'Main'), ('List',)]
>>> program = joined(modules, "Main")
>>> program[0]
(('List.List', 1, (('List.Nil', None), ('List.Cons', ('tuple', (('var', 0), ('of', 'List.List', (('var', 0),))))))),)
>>> show_term(program[1][2])
'let List.one = fn x -> List.Cons (x, List.Nil) in let Main.main = List.length (List.one 5) in Main.main'
>>> [items_at(modules, "Main"), whose(modules, "Main", (1, 1, 0, 1)), whose(modules, "Main", (0, 0)), whose(modules, "Main", (1, 1, 1))]
[[('List', 1, ()), ('List', 2, (1,)), ('Main', 0, (1, 1))], ('Main', 0, (0, 1)), ('List', 1, (0, 0)), None]
>>> try:
...     joined(modules[:1] + read_modules("module Main use List let main = List.one List.Nil"), "Main")
... except Hidden as error:
...     print(error.module, error.name)
Main List.Nil
>>> [is_module(modules[0]), is_module(("M", ("M",), (), ())), given_values(modules[1])]
[True, False, ()]
"""

BEHIND_26_OF_KINDS = r"""
>>> from kindsworn.kinds import are_fit, field_kind, put_after, put_in, rests_in, size_of_kind, variables_in
>>> num, truth = ("num",), ("truth",)
>>> some, more = ("record", (("a", ("var", 4)),), ("var", 2)), ("record", (("b", truth),), ("var", 5))
>>> [variables_in(some), rests_in(some), are_fit([some, more]), are_fit([some, ("record", (("c", num),), ("var", 2))]), field_kind(some, "a")]
[(4, 2), (2,), True, False, ('var', 4)]
>>> put_in(("to", some, ("var", 4)), {4: num, 2: ((("b", truth),), None)})
('to', ('record', (('a', ('num',)), ('b', ('truth',))), None), ('num',))
>>> [put_after({0: ("cell", ("var", 1))}, {1: num}), size_of_kind(some)]
[{0: ('cell', ('num',)), 1: ('num',)}, 2]
"""


class ExamplesTest(unittest.TestCase):
    def holds(self, examples):
        test = doctest.DocTestParser().get_doctest(examples, {}, "examples", None, 0)
        told = []
        result = doctest.DocTestRunner().run(test, out=told.append)
        self.assertGreater(result.attempted, 3)
        self.assertEqual(result.failed, 0, "".join(told))

    def test_behind_14(self):
        self.holds(BEHIND_14)

    def test_behind_18(self):
        self.holds(BEHIND_18)

    def test_behind_22(self):
        self.holds(BEHIND_22)

    def test_behind_26(self):
        self.holds(BEHIND_26_OF_KINDS)


if __name__ == "__main__":
    unittest.main()
