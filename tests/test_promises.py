"""[3]: nothing that is passed in is changed, and what is told is new, and the same again; [4]: the errors."""

import unittest

from kindsworn import (
    bench, checker, collector, compiler, derivations, errors, heap, kinds, lots, machine, missing, patterns, readback, rooms, runs, schemes, scopes, sidebyside, steps, taking, unify, values, words)
from kindsworn.reader import read_kind, read_pattern, read_program, read_term
from kindsworn.trees import places_of
from tests.anything import frozen

NUM, TRUTH = ("num",), ("truth",)
FINE = read_program("kind Opt ?0 = No | Some ?0 give let i = fn x -> x in (i 1, i (Some true), match No with | Some y -> y | z -> 2 | No -> 3 end)")
BAD = read_program("give (1 + true, let i = fn x -> x in 2 2)")
OPT = FINE[0]
ROWS = [read_pattern("Some x"), read_pattern("Some (y, 1)"), read_pattern("No")]
ENV = (("a", ("num", 1)), ("b", ("cell", 4)))
PAIRS = [(read_kind("{a: num | ?0}"), read_kind("{b: ?2 | ?1}")), (("var", 2), TRUTH)]
DERIVED = checker.derivation_of(FINE, places_of(FINE[1]))
STATE = (("give", ("num", 3)), (("new",),), ((0, TRUTH),), (1,))
CODE = compiler.code_of(FINE)
GROUP = ("loop", (("f", read_term("fn x -> g y")), ("g", read_term("fn z -> f x"))), 1)


def a_machine(rows):
    made = machine.Machine(CODE, 100, (True, False))
    made.run(rows)
    return made


def a_bench():
    made = bench.Bench()
    made.put("module L let id = fn x -> x give id module M use L let main = L.id 5 module N let main = 1 1")
    made.swear("L.id", (0, ("to", NUM, NUM)))
    return made


def of_machine(call):
    """A call of a machine that has done so many rows."""
    def told(rows, *arguments):
        return call(a_machine(rows), *arguments)
    return told


def of_bench(call):
    """A call of a bench."""
    def told(*arguments):
        return call(a_bench(), *arguments)
    return told


CALLS = [
    (kinds.put_after, {0: ("cell", ("var", 1))}, {1: NUM}), (unify.unify, PAIRS), (unify.unify, [(NUM, TRUTH)]), (unify.is_unifier, PAIRS, {2: TRUTH}), (unify.first_clash, PAIRS + [(NUM, TRUTH)]),
    (schemes.scheme_of, read_kind("?4 -> {a: ?4 | ?2}")), (schemes.instance_by, (1, ("to", ("var", 0), NUM)), ("to", TRUTH, NUM)), (schemes.matched, read_kind("?0 -> ?1"), read_kind("num -> ?1"), (0,)),
    (schemes.common_instance, (1, ("var", 0)), (0, NUM)), (schemes.is_instance, (1, ("var", 0)), NUM), (schemes.is_more_general, (1, ("var", 0)), (0, NUM)), (derivations.binder_of, FINE[1], (0, 0)),
    (derivations.maker_of, OPT, "Some"), (derivations.pattern_kinds, OPT, ROWS[0], read_kind("Opt num")), (derivations.is_derivation, FINE, places_of(FINE[1]), DERIVED),
    (derivations.broken_rules, FINE, places_of(FINE[1]), ({**DERIVED[0], (): NUM}, DERIVED[1])), (derivations.specialised, DERIVED, {}), (checker.derivation_of, FINE, places_of(FINE[1])), (checker.derivation_of, FINE, ()),
    (checker.has_derivation, BAD, ((),)), (checker.scheme_of_program, FINE), (checker.has_scheme, FINE, (0, NUM)), (checker.spread_out, FINE), (lots.all_places, FINE), (lots.has_kinds, BAD, ()), (lots.least_lot, BAD),
    (lots.is_least_lot, BAD, ((), (0,))), (lots.lots_apart, BAD), (lots.are_lots_apart, BAD, [((0,), (0, 1))]), (lots.mends, BAD, ((0,),)), (lots.least_mending, BAD), (lots.is_least_mending, BAD, ((0,),)),
    (lots.least_lots_in, BAD, ((0,), (0, 0), (0, 1))), (lots.greatest_lots_in, BAD, ((0,), (0, 0), (0, 1))), (patterns.bindings, read_pattern("(y, x)"), ("tuple", (TRUTH, NUM))), (patterns.first_row, ROWS, ("make", "No", None)),
    (patterns.meet, ROWS[0], ROWS[1]), (patterns.lies_in, ROWS[1], ROWS[0]), (missing.missing, OPT, read_kind("Opt ?0"), ROWS[:1]), (missing.is_missing, OPT, read_kind("Opt ?0"), ROWS[:1], ROWS[2]), (missing.needless, OPT, read_kind("Opt (num, num)"), ROWS),
    (missing.left_to, OPT, read_kind("Opt (num, num)"), ROWS, 2), (missing.is_left_to, OPT, read_kind("Opt (num, num)"), ROWS, 2, ROWS[2]), (missing.is_plain, OPT, read_kind("Opt num")), (missing.some_value, OPT, read_kind("Opt num"), ROWS[0]),
    (taking.first_unwhole, FINE), (taking.needless_rows, FINE), (taking.is_taken, FINE), (taking.taken, FINE), (values.is_value, ("cell", 1)), (values.is_env, ENV), (values.narrowed, ENV, ("a",)), (values.widened, ENV, {"a": TRUTH}),
    (values.cells_in, ("cell", 3)), (values.show_value, ("cell", 3)), (steps.first_state, read_term("1 + 2")), (steps.next_state, STATE), (steps.next_state, steps.first_state(read_term("(1, 2)"))),
    (runs.states_of, FINE[1], 9), (runs.run_of, FINE[1], 9), (runs.reached_cells, STATE), (runs.trimmed, STATE), (runs.deepest, [STATE]), (runs.is_of_kind, OPT, read_kind("Opt num"), ("make", "No", None)), (words.immediate, 0, 7), (words.is_word, 7), (words.is_row, ("give", 7)), (words.is_code, CODE),
    (heap.header_of, 1, 2, 3), (heap.read_header, 77), (heap.object_at, (0, 21, 1, 11), 1), (heap.size_at, (0, 21, 1, 11), 1), (heap.with_object, (0,) * 4, 1, 0, 0, (1, 11)), (collector.reached, (21, 1, 0, 0, 0, 0), (0,)), (collector.reached_words, (21, 1, 0, 0, 0, 0), (0,)), (collector.collected, (21, 1, 0, 0, 0, 0), 3, 0, (0, 5)),
    (of_machine(machine.Machine.shown), 9), (of_machine(machine.Machine.code), 9), (of_machine(machine.Machine.plan), 9), (of_machine(machine.Machine.run), 9, 4), (of_machine(machine.roots), 9), (scopes.captures_of, GROUP), (scopes.wheres_of, {"z": ("own",), "a": ("local", 1)}, ("z", "a")), (scopes.scope_within, ((0, GROUP[:2] + (0,), ("x", "y")), (0, GROUP, ("x", "y"))), 1),
    (compiler.code_of, FINE), (compiler.laid, OPT, FINE[1]), (compiler.depths_of, CODE), (compiler.greatest_depth, CODE), (of_machine(readback.value_of), 9, 13), (of_machine(readback.word_at), 2, 0, 5, ("local", 0)), (of_machine(readback.env_of), 2, 0, 5, (("i", ("local", 0)),)), (of_machine(readback.activations), 9), (of_machine(readback.state_of), 9),
    (sidebyside.marks_of, FINE, 100, (True,), 30), (sidebyside.are_marks, FINE, 100, (True,), [0, 1]), (sidebyside.silent_rows, [0, 0, 2]), (sidebyside.strides, [0, 0, 2]), (sidebyside.ends_alike, FINE, 100, (), 99), (sidebyside.alike_by_plans, FINE, 100, [(), (True,)], 99), (rooms.needs_of, CODE, 99), (rooms.least_room, CODE, 99), (rooms.room_lacks, CODE, 2, 99),
    (rooms.piles_of, CODE, 99), (rooms.greatest_pile, CODE, 99), (rooms.calls_open, CODE, 99), (of_bench(bench.Bench.texts),), (of_bench(bench.Bench.oaths),), (of_bench(bench.verdict), "M"), (of_bench(bench.verdict), "N"), (of_bench(bench.verdict), "L"), (of_bench(bench.scheme_at), "L.id"), (of_bench(bench.run_at), "M", 50, (True,), 90)]


def spoil(thing):
    """Changes all lists and dicts in a thing."""
    parts = list(thing.values()) if isinstance(thing, dict) else list(thing) if isinstance(thing, (list, tuple)) else []
    for part in parts:
        spoil(part)
    if isinstance(thing, (dict, list)):
        thing.clear()


class PromisesTest(unittest.TestCase):
    def test_again(self):
        for call, *arguments in CALLS:
            before = frozen(arguments)
            first = call(*arguments)
            told = frozen(first)
            self.assertEqual(frozen(arguments), before, call)
            spoil(first)
            self.assertEqual(frozen(arguments), before, call)
            self.assertEqual(frozen(call(*arguments)), told, call)

    def test_keys_are_ascending(self):
        for call, *arguments in CALLS:
            todo = [call(*arguments)]
            while todo:
                one = todo.pop()
                if isinstance(one, dict):
                    self.assertEqual(list(one), sorted(one), call)
                    todo.extend(one.values())
                elif isinstance(one, (list, tuple)):
                    todo.extend(list(one)[:200])

    def test_truths(self):
        for call, *arguments in CALLS:
            if call.__name__.startswith(("is_", "are_", "alike_", "has_", "mends", "lies_in")):
                self.assertIsInstance(call(*arguments), bool, call)

    def test_errors(self):
        great = read_program("give " + "".join(f"let x{at} = (x{at - 1}, x{at - 1}) in " if at else "let x0 = 1 in " for at in range(13)) + "x12")
        half = read_program("give match 1 with | 1 -> 2 end")
        for call, arguments, wanted in [
                (checker.derivation_of, (great, places_of(great[1])), errors.TooGreat), (checker.scheme_of_program, (great,), errors.TooGreat), (checker.spread_out, (great,), errors.TooMany), (taking.taken, (BAD,), errors.NotTyped),
                (taking.taken, (half,), errors.NotWhole), (lots.least_lots_in, (great, places_of(great[1])), errors.TooMany), (steps.next_state, ((("give", TRUTH), (("tell",),), (), ()),), errors.Stuck)]:
            before = frozen(arguments)
            for _ in range(2):
                with self.assertRaises(errors.SwornError) as caught:
                    call(*arguments)
                self.assertIs(type(caught.exception), wanted)
                self.assertEqual(frozen(arguments), before)


if __name__ == "__main__":
    unittest.main()
