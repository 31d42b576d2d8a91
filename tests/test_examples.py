"""The examples of the document, as they stand there."""

import doctest
import unittest

BEHIND_14 = r"""
>>> from kindsworn.forms import is_declarations, is_kind, is_name, is_pattern, is_program, is_scheme, is_small, wrapped
>>> from kindsworn.trees import are_alike, bound_at, free_names, is_settled, names_of, part_at, parts_of, places_of, plain_names
>>> from kindsworn.trees import size_of, with_part
>>> num, x, y = ("num",), ("name", "x"), ("name", "y")
>>> [wrapped(2147483648), is_small("get"), is_small("getX_1"), is_name("List.map"), is_name("list.map")]
[-2147483648, False, True, True, False]
>>> [is_kind(("record", (("a", num),), ("var", 0))), is_kind(("to", ("var", 0), ("record", (), ("var", 0)))), is_kind(("tuple", (num,)))]
[True, False, False]
>>> [is_scheme((2, ("to", ("var", 0), ("var", 1)))), is_scheme((2, ("to", ("var", 1), ("var", 0))))]
[True, False]
>>> option = ("Option", 1, (("None", None), ("Some", ("var", 0))))
>>> [is_declarations((option,)), is_declarations((option, option)), is_pattern(("tuple", (("bind", "x"), ("bind", "x"))))]
[True, False, False]
>>> term = ("let", "x", ("num", 1), ("fn", "y", ("op", "+", x, y)))
>>> [places_of(term), size_of(term), part_at(term, (1, 0, 0)), parts_of(("make", "None", None))]
[((), (0,), (1,), (1, 0), (1, 0, 0), (1, 0, 1)), 6, ('name', 'x'), ()]
>>> [bound_at(term, (0,)), bound_at(term, (1, 0)), free_names(part_at(term, (1,))), is_settled(part_at(term, (1,))), is_settled(("op", "+", x, y))]
[(), ('x', 'y'), ('x',), True, False]
>>> [names_of(("make", "Some", ("tuple", (("bind", "b"), ("any",), ("bind", "a"))))), plain_names(part_at(term, (1,)))]
[('a', 'b'), ('fn', 'v0', ('op', '+', ('name', 'x'), ('name', 'v0')))]
>>> [are_alike(("fn", "x", x), ("fn", "y", y)), are_alike(("fn", "x", y), ("fn", "y", y)), with_part(("new", x), (0,), y)]
[True, False, ('new', ('name', 'y'))]
>>> row = (("make", "Some", ("bind", "x")), x)
>>> [is_program(((option,), ("match", ("make", "None", None), (row,)))), is_program(((), ("match", ("num", 1), (row,)))), is_program(((), x))]
[True, False, False]
"""

BEHIND_18 = r"""
>>> from kindsworn.reader import read_kind, read_pattern, read_program, read_term
>>> from kindsworn.shower import show_kind, show_pattern, show_program, show_term
>>> from kindsworn.wordsof import words_of
>>> words_of("let x =\n ~5in List.map # a remark")
[('let', 0, 0), ('x', 0, 4), ('=', 0, 6), ('~5', 1, 1), ('in', 1, 3), ('List.map', 1, 6)]
>>> read_kind("(num -> truth) -> {a: cell num | ?0}")
('to', ('to', ('num',), ('truth',)), ('record', (('a', ('cell', ('num',))),), ('var', 0)))
>>> show_kind(("of", "List", (("of", "Option", (("num",),)), ("tuple", (("num",), ("to", ("var", 0), ("var", 1)))))))
'List (Option num) (num, ?0 -> ?1)'
>>> [read_pattern("Cons (x, _)"), show_pattern(("make", "Some", ("make", "Some", ("num", -1))))]
[('make', 'Cons', ('tuple', (('bind', 'x'), ('any',)))), 'Some (Some ~1)']
>>> [read_term("f x.a 1"), read_term("a - b - 1 * 2") == read_term("((a - b)) - (1 * 2)")]
[('call', ('call', ('name', 'f'), ('field', ('name', 'x'), 'a')), ('num', 1)), True]
>>> term = ("call", ("get", ("name", "c")), ("op", "+", ("make", "None", None), ("fn", "x", ("name", "x"))))
>>> show_term(term)
'(get c) (None + (fn x -> x))'
>>> show_term(read_term("rec f = fn x -> if x < 1 then () else f (x - 1) in match f 3 with | () -> put r (new {a = 1}) end"))
'rec f = fn x -> if x < 1 then () else f (x - 1) in match f 3 with | () -> put r (new {a = 1}) end'
>>> program = read_program("kind List ?0 = Nil | Cons (?0, List ?0) give Cons (1, Nil)")
>>> [program[0], show_program(program)]
[(('List', 1, (('Nil', None), ('Cons', ('tuple', (('var', 0), ('of', 'List', (('var', 0),))))))),), 'kind List ?0 = Nil | Cons (?0, List ?0)\ngive Cons (1, Nil)']
"""

BEHIND_22 = r"""
>>> from kindsworn.errors import Hidden
>>> from kindsworn.joining import items_at, joined, order_of, whose
>>> from kindsworn.modules import given_kinds, given_makers, given_values, is_module, makers_in, outer_names, values_of
>>> from kindsworn.moduletexts import read_modules, show_modules
>>> from kindsworn.shower import show_term
>>> head = "module List\nkind List ?0 = Nil | Cons (?0, List ?0)\n"
>>> work = "rec length = fn l -> match l with | Nil -> 0 | Cons (_, t) -> length t + 1 end\nlet one = fn x -> Cons (x, Nil)\n"
>>> tail = "module Main\nuse List\nlet main = List.length (List.one 5)"
>>> modules = read_modules(head + work + "give length, one, kind List\n" + tail)
>>> [show_modules(modules[1:]) == tail, values_of(modules[0]), makers_in(modules[0]), given_kinds(modules[0]), given_makers(modules[0])]
[True, ('length', 'one'), ('Cons', 'Nil'), ('List',), ()]
>>> [modules[0][3], outer_names(modules[1]), order_of(modules, "Main"), order_of(modules, "List")]
[(('value', 'length'), ('value', 'one'), ('kind', 'List')), ('List.length', 'List.one'), ('List', 'Main'), ('List',)]
>>> program = joined(modules, "Main")
>>> program[0]
(('List.List', 1, (('List.Nil', None), ('List.Cons', ('tuple', (('var', 0), ('of', 'List.List', (('var', 0),))))))),)
>>> show_term(program[1][2])
'let List.one = fn x -> List.Cons (x, List.Nil) in let Main.main = List.length (List.one 5) in Main.main'
>>> [items_at(modules, "Main"), whose(modules, "Main", (1, 1, 0, 1)), whose(modules, "Main", (0, 0)), whose(modules, "Main", (1, 1, 1))]
[[('List', 1, ()), ('List', 2, (1,)), ('Main', 0, (1, 1))], ('Main', 0, (0, 1)), ('List', 1, (0, 0)), None]
>>> try:
...     joined(modules[:1] + read_modules("module Main use List let main = List.one List.Nil"), "Main")
... except Hidden as error:
...     print(error.module, error.name)
Main List.Nil
>>> [is_module(modules[0]), is_module(("M", ("M",), (), ())), given_values(modules[1])]
[True, False, ()]
"""

BEHIND_26 = r"""
>>> from kindsworn.kinds import are_fit, field_kind, put_after, put_in, rests_in, size_of_kind, variables_in
>>> from kindsworn.schemes import common_instance, instance_by, is_instance, is_more_general, matched, scheme_of
>>> from kindsworn.unify import first_clash, is_unifier, unify
>>> num, truth = ("num",), ("truth",)
>>> some, more = ("record", (("a", ("var", 4)),), ("var", 2)), ("record", (("b", truth),), ("var", 5))
>>> [variables_in(some), rests_in(some), are_fit([some, more]), are_fit([some, ("record", (("c", num),), ("var", 2))]), field_kind(some, "a")]
[(4, 2), (2,), True, False, ('var', 4)]
>>> put_in(("to", some, ("var", 4)), {4: num, 2: ((("b", truth),), None)})
('to', ('record', (('a', ('num',)), ('b', ('truth',))), None), ('num',))
>>> [put_after({0: ("cell", ("var", 1))}, {1: num}), size_of_kind(some)]
[{0: ('cell', ('num',)), 1: ('num',)}, 2]
>>> pairs = [(("to", ("var", 0), num), ("to", truth, ("var", 1))), (("var", 0), ("var", 1))]
>>> [unify(pairs[:1]), unify(pairs), first_clash(pairs), unify([(("var", 0), ("cell", ("var", 0)))])]
[{0: ('truth',), 1: ('num',)}, None, 1, None]
>>> found = unify([(some, more)])
>>> [list(found), put_in(some, found) == put_in(more, found), [label for label, kind in put_in(some, found)[1]], found[2][1] == found[5][1]]
[[2, 5], True, ['a', 'b'], True]
>>> [is_unifier([(some, more)], {2: ((("b", truth),), None), 5: ((("a", ("var", 4)),), None)}), is_unifier([(some, more)], {})]
[True, False]
>>> twice = scheme_of(("to", ("var", 7), ("tuple", (("var", 3), ("var", 7)))))
>>> [twice, scheme_of(some), instance_by(twice, ("to", num, ("tuple", (truth, num))))]
[(2, ('to', ('var', 0), ('tuple', (('var', 1), ('var', 0))))), (2, ('record', (('a', ('var', 0)),), ('var', 1))), {0: ('num',), 1: ('truth',)}]
>>> same = (1, ("to", ("var", 0), ("var", 0)))
>>> [is_instance(same, ("to", num, truth)), is_more_general((2, ("to", ("var", 0), ("var", 1))), same), is_instance(same, ("to", ("var", 3), ("var", 3)))]
[False, True, True]
>>> [common_instance((1, ("to", ("var", 0), num)), (1, ("to", truth, ("var", 0)))), common_instance(same, (0, ("to", num, truth)))]
[(0, ('to', ('truth',), ('num',))), None]
>>> [matched(("to", ("var", 0), ("var", 1)), ("to", num, ("var", 1)), (0,)), matched(("to", ("var", 0), ("var", 1)), ("to", num, num), (0,))]
[{0: ('num',)}, None]
"""

BEHIND_33 = r"""
>>> from kindsworn.checker import derivation_of, has_scheme, scheme_of_program
>>> from kindsworn.derivations import binder_of, broken_rules, is_derivation, maker_of, pattern_kinds, specialised
>>> num, truth, x = ("num",), ("truth",), ("name", "x")
>>> same = ("fn", "x", x)
>>> program = ((), ("call", same, ("num", 3)))
>>> kinds = {(): num, (0,): ("to", num, num), (0, 0): num, (1,): num}
>>> every = ((), (0,), (0, 0), (1,))
>>> [is_derivation(program, every, (kinds, {})), broken_rules(program, every, ({**kinds, (1,): truth}, {}))]
[True, [(), (1,)]]
>>> [is_derivation(program, ((0,), (0, 0)), ({**kinds, (1,): truth}, {})), binder_of(program[1], (0, 0))]
[True, (0,)]
>>> twice = ("tuple", (("call", ("name", "i"), ("num", 3)), ("call", ("name", "i"), ("truth", True))))
>>> [scheme_of_program(((), ("let", "i", same, twice))), scheme_of_program(((), ("call", ("fn", "i", twice), same)))]
[(0, ('tuple', (('num',), ('truth',)))), None]
>>> held = ("let", "c", ("new", same), ("let", "i", ("get", ("name", "c")), twice))
>>> [scheme_of_program(((), held)), scheme_of_program(((), ("rec", (("i", same),), twice)))]
[None, (0, ('tuple', (('num',), ('truth',))))]
>>> both = ("fn", "r", ("op", "+", ("field", ("name", "r"), "a"), ("field", ("name", "r"), "b")))
>>> scheme_of_program(((), both))
(1, ('to', ('record', (('a', ('num',)), ('b', ('num',))), ('var', 0)), ('num',)))
>>> lists = (("List", 1, (("Nil", None), ("Cons", ("tuple", (("var", 0), ("of", "List", (("var", 0),))))))),)
>>> head = ("make", "Cons", ("tuple", (("bind", "x"), ("bind", "t"))))
>>> [pattern_kinds(lists, head, ("of", "List", (num,))), pattern_kinds(lists, head, num), maker_of(lists, "Nil")]
[{'t': ('of', 'List', (('num',),)), 'x': ('num',)}, None, ('List', 1, None)]
>>> body = ("match", ("name", "l"), ((("make", "Nil", None), ("num", 0)), (head, ("op", "+", ("num", 1), ("call", ("name", "f"), ("name", "t"))))))
>>> long = (lists, ("rec", (("f", ("fn", "l", body)),), ("name", "f")))
>>> [scheme_of_program(long), has_scheme(long, (0, ("to", ("of", "List", (truth,)), num))), has_scheme(long, (1, ("var", 0)))]
[(1, ('to', ('of', 'List', (('var', 0),)), ('num',))), True, False]
>>> derivation_of(((), ("op", "+", ("num", 1), ("truth", True))), ((0,), (1,)))[0][(1,)]
('truth',)
"""

BEHIND_37 = r"""
>>> from kindsworn.lots import all_places, are_lots_apart, greatest_lots_in, has_kinds, is_least_lot, is_least_mending
>>> from kindsworn.lots import least_lot, least_lots_in, least_mending, lots_apart, mends
>>> one, yes = ("num", 1), ("truth", True)
>>> bad = ((), ("op", "+", one, yes))
>>> [all_places(bad), has_kinds(bad, ((), (0,))), has_kinds(bad, ((), (1,))), has_kinds(bad, ()), least_lot(bad)]
[((), (0,), (1,)), True, False, True, ((), (1,))]
>>> [least_lots_in(bad, all_places(bad)), greatest_lots_in(bad, all_places(bad)), lots_apart(bad)]
[[((), (1,))], [((), (0,)), ((0,), (1,))], [((), (1,))]]
>>> [mends(bad, ((1,),)), mends(bad, ((0,),)), least_mending(bad), is_least_mending(bad, ((),))]
[True, False, ((1,),), True]
>>> two = ((), ("tuple", (("op", "+", one, yes), ("call", one, yes))))
>>> [least_lot(two), lots_apart(two)]
[((0,), (0, 1)), [((0,), (0, 1)), ((1,), (1, 0))]]
>>> [least_mending(two), are_lots_apart(two, [((1,), (1, 0)), ((0,), (0, 1))]), is_least_lot(two, ((0,), (0, 0), (0, 1))), is_least_lot(two, None)]
[((0, 1), (1, 0)), True, False, False]
>>> same = ("fn", "x", ("name", "x"))
>>> uses = ("tuple", (("call", ("name", "f"), one), ("call", ("name", "f"), yes)))
>>> [least_lot(((), ("let", "f", same, uses))), has_kinds(((), ("call", ("fn", "f", uses), same)), ((), (0,)))]
[None, True]
>>> least_lot(((), ("call", ("fn", "f", uses), same)))
((0,), (0, 0, 0), (0, 0, 0, 0), (0, 0, 0, 1), (0, 0, 1), (0, 0, 1, 0), (0, 0, 1, 1))
"""

BEHIND_41 = r"""
>>> from kindsworn.errors import NotTyped
>>> from kindsworn.missing import is_left_to, is_missing, is_plain, left_to, missing, needless, some_value
>>> from kindsworn.patterns import bindings, first_row, lies_in, meet
>>> from kindsworn.taking import first_unwhole, is_taken, needless_rows, taken
>>> opt, num, truth = (("Opt", 1, (("No", None), ("Some", ("var", 0)))),), ("num",), ("truth",)
>>> some, no, pair = ("make", "Some", ("any",)), ("make", "No", None), ("tuple", (("bind", "x"), ("num", 2)))
>>> [bindings(pair, ("tuple", (("truth", True), ("num", 2)))), bindings(pair, ("tuple", (("num", 2), ("num", 3)))), first_row([("num", 1), ("any",)], ("num", 7))]
[{'x': ('truth', True)}, None, 1]
>>> [meet(pair, ("tuple", (("num", 1), ("any",)))), meet(("record", (("a", ("num", 1)),)), ("record", (("b", ("bind", "y")),))), meet(("num", 1), ("num", 2))]
[('tuple', (('num', 1), ('num', 2))), ('record', (('a', ('num', 1)), ('b', ('any',)))), None]
>>> [lies_in(("num", 1), ("bind", "x")), lies_in(("any",), ("tuple", (("any",), ("any",))))]
[True, False]
>>> some_num = ("of", "Opt", (num,))
>>> [missing(opt, some_num, [some]), missing(opt, some_num, [some, no]), missing((), truth, [("truth", True)])]
[('make', 'No', None), None, ('truth', False)]
>>> [is_missing((), num, [("num", 0)], ("num", 5)), is_missing((), num, [("num", 0)], ("any",)), is_missing((), num, [], None)]
[True, False, False]
>>> rows = [("make", "Some", ("num", 1)), ("any",), ("make", "Some", ("num", 2)), no]
>>> [needless(opt, some_num, rows), is_left_to(opt, some_num, rows, 1, no), is_left_to(opt, some_num, rows, 2, rows[2])]
[(2, 3), True, False]
>>> [left_to((), truth, [("truth", True), ("any",)], 1), is_plain(opt, some_num), is_plain(opt, ("of", "Opt", (("to", num, num),)))]
[('truth', False), True, False]
>>> some_value(opt, ("of", "Opt", (truth,)), ("make", "Some", ("truth", True)))
('make', 'Some', ('truth', True))
>>> half = (opt, ("fn", "o", ("match", ("name", "o"), ((some, ("num", 1)),))))
>>> [first_unwhole(half), needless_rows(half), is_taken(half)]
[((0,), ('make', 'No', None)), {}, False]
>>> body = ("match", ("name", "o"), ((("make", "Some", ("bind", "x")), ("name", "x")), (("any",), ("num", 0)), (no, ("num", 1))))
>>> [taken((opt, ("fn", "o", body))), needless_rows((opt, ("fn", "o", body)))]
[(0, ('to', ('of', 'Opt', (('num',),)), ('num',))), {(0,): (2,)}]
>>> try:
...     taken(((), ("op", "+", ("num", 1), ("truth", True))))
... except NotTyped as error:
...     print(error.lot)
((), (1,))
"""

BEHIND_47 = r"""
>>> from kindsworn.runs import reached_cells, run_of, states_of, trimmed
>>> from kindsworn.steps import first_state, next_state
>>> from kindsworn.values import cells_in, narrowed, show_value, widened
>>> two, x = ("num", 2), ("name", "x")
>>> rest = ("op", "+", x, ("num", 1))
>>> term = ("let", "x", two, rest)
>>> states = states_of(term, 100)
>>> [len(states), states[0] == first_state(term), states[1]]
[9, True, (('do', ('num', 2), ()), (('let', 'x', ('op', '+', ('name', 'x'), ('num', 1)), ()),), (), ())]
>>> [states[4][1], states[6][:2], next_state(states[8]), run_of(term, 3)[0], run_of(term, 100)]
[(('op', '+', ('num', 1), ()),), (('do', ('num', 1), ()), (('opto', '+', ('num', 2)),)), None, 'going', ('ended', (('give', ('num', 3)), (), (), ()), 8)]
>>> swap = ("let", "c", ("new", two), ("let", "u", ("put", ("name", "c"), ("num", 5)), ("tell", ("get", ("name", "c")))))
>>> end = run_of(swap, 100)[1]
>>> [end, trimmed(end)[2], reached_cells(end)]
[(('give', ('tuple', ())), (), ((0, ('num', 5)),), (5,)), (), ()]
>>> [run_of(("call", two, two), 100)[0], run_of(("rec", (("f", ("fn", "n", ("call", ("name", "f"), ("name", "n")))),), ("call", ("name", "f"), two)), 50)[0]]
['stuck', 'going']
>>> value = ("make", "List.Cons", ("tuple", (two, ("make", "List.Cons", ("tuple", (("cell", 3), ("make", "List.Nil", None)))))))
>>> [show_value(value), cells_in(value), narrowed((("a", two), ("b", two)), ("b", "c")), widened((("a", two),), {"a": ("truth", True)})]
['List.Cons (2, List.Cons (cell, List.Nil))', (3,), (('b', ('num', 2)),), (('a', ('truth', True)),)]
"""

BEHIND_53 = r"""
>>> from kindsworn.collector import collected, reached, reached_words
>>> from kindsworn.heap import header_of, object_at, read_header, size_at, with_object
>>> from kindsworn.machine import Machine, end_of, roots
>>> from kindsworn.words import content_of, immediate, is_code, is_row, is_word, sort_of
>>> [immediate(0, 7), immediate(0, -3), sort_of(-29), content_of(-29), sort_of(6), content_of(6), is_word(13), is_word(25)]
[71, -29, 0, -3, 5, 3, True, False]
>>> [header_of(0, 0, 2), read_header(header_of(4, 3, 1)), with_object((0,) * 4, 1, 0, 0, (11, 21))]
[21, (4, 3, 1), (0, 21, 11, 21)]
>>> heap = (21, 11, 21, 21, 0, 0) + (0,) * 6
>>> [object_at(heap, 3), reached(heap, (6,)), reached_words(heap, (0, 13)), size_at(heap, 0)]
[(0, 0, (0, 0)), (0, 3), 3, 3]
>>> collected(heap, 6, 0, (6, 5, 6))
((0, 0, 0, 0, 0, 0, 21, 18, 18, 21, 11, 21), 12, (12, 5, 12))
>>> rows = (("closure", 0, 0), ("push",), ("give", 51), ("tail",), ("local", 0), ("back",))
>>> code = (rows, ((4, None, ()),), (), (), (None,) * 6)
>>> [is_code(code), is_row(("tuple", 1)), is_code((rows[:4], ((4, None, ()),), (), (), (None,) * 4))]
[True, False, False]
>>> machine = Machine(code, 1, ())
>>> [machine.run(4), machine.shown()["pile"], machine.shown()["own"], machine.shown()["heap"], roots(machine), machine.run(9)]
[4, (51,), 0, (9, 0), (51, 0, 51), 2]
>>> [machine.shown()["word"], machine.shown()["hand"], end_of(code, 0, (True,), 9)[0], end_of(code, 1, (True,), 3)[::2]]
['ended', 51, 'room', ('going', 3)]
"""

BEHIND_58 = r"""
>>> from kindsworn.compiler import code_of, depths_of, greatest_depth, laid
>>> from kindsworn.machine import Machine, end_of
>>> from kindsworn.scopes import captures_of, scope_within, wheres_of
>>> n, x, five = ("name", "n"), ("name", "x"), ("num", 5)
>>> same = ("fn", "x", x)
>>> code = code_of(((), ("call", same, five)))
>>> code[0]
(('closure', 0, 0), ('push',), ('give', 51), ('tail',), ('local', 0), ('back',))
>>> [code[1] == ((4, ("closure", same), ()),), code[4][0][0][0], code[4][1], code[4][3], code[4][4]]
[True, 'do', (('give',), (('argument', ('num', 5), ()),)), (('give',), (('apply', ('slot', 0)),)), (('do', ('name', 'x'), (('x', ('local', 0)),)), ())]
>>> down = ("call", ("name", "f"), ("op", "-", n, ("num", 1)))
>>> group = (("f", ("fn", "n", ("if", ("op", "=", n, ("num", 0)), n, down))),)
>>> loop = laid((), ("rec", group, ("call", ("name", "f"), ("num", 3))))
>>> loop[0][:6]
(('closure', 0, 0), ('push',), ('local', 0), ('push',), ('give', 31), ('tail',))
>>> loop[0][6:13]
(('local', 0), ('push',), ('give', 1), ('op', '='), ('unless', 13), ('local', 0), ('back',))
>>> loop[0][13:]
(('own',), ('push',), ('local', 0), ('push',), ('give', 11), ('op', '-'), ('tail',))
>>> [end_of(loop, 1, (True, False), 1000)[::2], depths_of(loop)[10:17], greatest_depth(loop)]
[('ended', 49), [1, 1, 1, 1, 1, 2, 2], 3]
>>> [captures_of(("loop", group, 0)), scope_within(loop[1], 0), wheres_of({"n": ("local", 0), "f": ("own",)}, ("f",))]
[(), {'f': ('own',), 'n': ('local', 0)}, (('f', ('own',)),)]
"""

BEHIND_62 = r"""
>>> from kindsworn.readback import state_of, value_of
>>> from kindsworn.sidebyside import alike_by_plans, are_marks, ends_alike, marks_of, silent_rows, strides
>>> term = ("let", "p", ("tuple", (("num", 1), ("num", 2))), ("match", ("name", "p"), ((("tuple", (("bind", "a"), ("any",))), ("name", "a")),)))
>>> program = ((), term)
>>> marks = marks_of(program, 50, (True,), 100)
>>> [marks[0], marks[-1], are_marks(program, 50, (True,), marks), are_marks(program, 50, (True,), [1] + marks[1:])]
[0, 11, True, False]
>>> [ends_alike(program, 50, (False,), 100), ends_alike(program, 2, (False,), 100)[0], ends_alike(program, 50, (), 2)[0]]
[('ended', ('num', 1), ()), 'room', 'going']
>>> [alike_by_plans(program, 50, [(True,), (False, True), ()], 100), silent_rows([0, 0, 0, 2, 2, 5]), strides([0, 0, 0, 2, 2, 5])]
[True, 2, 3]
"""

BEHIND_66 = r"""
>>> from kindsworn.bench import Bench, run_at, scheme_at, verdict
>>> from kindsworn.errors import Broken
>>> from kindsworn.rooms import calls_open, greatest_pile, least_room, needs_of, piles_of, room_lacks
>>> rows = (("closure", 0, 0), ("push",), ("give", 51), ("tail",), ("local", 0), ("back",))
>>> code = (rows, ((4, None, ()),), (), (), (None,) * 6)
>>> [needs_of(code, 9), least_room(code, 9), room_lacks(code, 0, 9), room_lacks(code, 1, 9), piles_of(code, 9), greatest_pile(code, 9), calls_open(code, 4)]
[[(0, 1)], 1, 0, None, [0, 0, 1, 1, 1, 1, 1], 1, [1, 1, 1, 1, 1]]
>>> bench = Bench()
>>> [bench.put("module M let id = fn x -> x give id"), bench.put("module Main use M let main = M.id (M.id 5)")]
[None, None]
>>> [verdict(bench, "Main"), scheme_at(bench, "M.id"), scheme_at(bench, "M.no"), verdict(bench, "M")]
[('taken', (0, ('num',))), (1, ('to', ('var', 0), ('var', 0))), None, ('joining', 'NoName', ('M', 'main'))]
>>> [bench.swear("M.id", (0, ("to", ("num",), ("num",)))), bench.swear("M.id", (1, ("to", ("var", 0), ("var", 0))))]
[None, None]
>>> try:
...     bench.put("module M let id = fn x -> x + 1 give id")
... except Broken as error:
...     print(error.index)
1
>>> [bench.texts()["M"], bench.free(1), bench.put("module Main use M let main = M.id 1 + M.id true")]
['module M\nlet id = fn x -> x\ngive id', None, None]
>>> verdict(bench, "Main")[1][:4]
(('M', 0, ()), ('M', 0, (0,)), ('M', 0, (0, 0)), ('Main', 0, (0,)))
>>> [bench.undo(), run_at(bench, "Main", 50, (True,), 100), bench.oaths() == [("M.id", (0, ("to", ("num",), ("num",))))], bench == bench.twin()]
[None, ('ended', ('num', 5), ()), True, True]
"""



class ExamplesTest(unittest.TestCase):
    def holds(self, examples):
        test = doctest.DocTestParser().get_doctest(examples, {}, "examples", None, 0)
        told = []
        result = doctest.DocTestRunner().run(test, out=told.append)
        self.assertGreater(result.attempted, 3)
        self.assertEqual(result.failed, 0, "".join(told))

    def test_behind_14(self):
        self.holds(BEHIND_14)

    def test_behind_18(self):
        self.holds(BEHIND_18)

    def test_behind_22(self):
        self.holds(BEHIND_22)

    def test_behind_26(self):
        self.holds(BEHIND_26)

    def test_behind_33(self):
        self.holds(BEHIND_33)

    def test_behind_37(self):
        self.holds(BEHIND_37)

    def test_behind_41(self):
        self.holds(BEHIND_41)

    def test_behind_47(self):
        self.holds(BEHIND_47)

    def test_behind_53(self):
        self.holds(BEHIND_53)

    def test_behind_58(self):
        self.holds(BEHIND_58)

    def test_behind_62(self):
        self.holds(BEHIND_62)

    def test_behind_66(self):
        self.holds(BEHIND_66)


if __name__ == "__main__":
    unittest.main()
