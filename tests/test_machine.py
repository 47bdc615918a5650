"""[17] to [21]: states, steps, runs, deeds."""

import unittest

from anypasses.admission import admitted
from anypasses.errors import InvalidQuestion
from anypasses.machine import (advance, deeds_of, depth_of, run_module, run_of, start_state, step_state, whole_run)
from anypasses.numbers import CASTS, OPS, PREDS, cast_told
from anypasses.reading import read_module
from anypasses.runs import agree_so_far, is_beginning, is_run
from anypasses.states import is_inputs
from making import admitted_module, sources
from oracle import plain_bin, plain_cmp, plain_step

NO_INPUTS = (None, 0, "12", b"1", {}, {1: 2}, (True,), [False], [1, -1], (1.0,), ["1"], [None], ([1],), [1, (2,)], True)


def module_of(text):
    return admitted(read_module(text))


def main_of(text, result="i8"):
    return module_of(f"@a = global i8 [3, 4] @b = global i32 [9] define {result} @main() {{ b0(): {text} }}")


def ended(module, inputs=()):
    told = whole_run(module, inputs, 100000)
    return told[0]


class Inputs(unittest.TestCase):
    def test_is_inputs(self):
        for value in ((), [], (0,), [1, 2], (2 ** 80,)):
            self.assertIs(is_inputs(value), True)
        for value in NO_INPUTS:
            self.assertIs(is_inputs(value), False, value)

    def test_refused(self):
        module = main_of("return 0")
        for value in NO_INPUTS:
            for ask in (lambda: start_state(module, value), lambda: run_module(module, value, 0),
                        lambda: whole_run(module, value, 0), lambda: deeds_of(module, value, 0)):
                with self.assertRaises(InvalidQuestion) as caught:
                    ask()
                self.assertEqual(caught.exception.at, 1)

    def test_lists_are_as_good_as_tuples(self):
        module = main_of("$0 = input i8 return $0")
        self.assertEqual(start_state(module, [7, 8]), start_state(module, (7, 8)))
        self.assertEqual(run_module(module, [7], 9), run_module(module, (7,), 9))
        given = [7]
        state = start_state(module, given)
        given[0] = 8
        self.assertEqual(run_of(advance(module, state, 9)), ((), ("value", 7)))


class States(unittest.TestCase):
    def test_start(self):
        module = module_of("@a = global i8 [3, 4] @b = global i32 [9] define void @f(){b0(): return} define i1 @main(){b7(): stop b0(): stop}")
        state = start_state(module, [5])
        self.assertEqual(state, (((8, (3, 4)), (32, (9,))), (("main", 7, 0, (), 2),), (5,), (), None))
        self.assertEqual(run_of(state), ((), None))
        self.assertEqual(depth_of(state), 1)

    def test_each_state_of_a_run(self):
        module = module_of("""@a = global i8 [3]
            define i8 @f(ptr, i8) { b3(): $2 = alloca i8, 2 store i8 $1, $2 $5 = load i8 $0 return $5 }
            define i8 @main() { b1(): $9 = input i8 $8 = call @f(@a, $9) print i8 $8 jump b2($8) b2(i8 $3): return $3 }""")
        a, frame = (8, (3,)), ("main", 1, 1, ((9, 1),), 1)
        new, done, f = (8, (0, 0)), ((8, 3), (9, 1)), ((0, (0, 0)), (1, 1))
        states = [
            ((a,), (("main", 1, 0, (), 1),), (257,), (), None),
            ((a,), (frame,), (), (), None),
            ((a,), (frame, ("f", 3, 0, f, 1)), (), (), None),
            ((a, new), (frame, ("f", 3, 1, f + ((2, (1, 0)),), 1)), (), (), None),
            ((a, (8, (1, 0))), (frame, ("f", 3, 2, f + ((2, (1, 0)),), 1)), (), (), None),
            ((a, (8, (1, 0))), (frame, ("f", 3, 3, f + ((2, (1, 0)), (5, 3)), 1)), (), (), None),
            ((a, None), (("main", 1, 2, done, 1),), (), (), None),
            ((a, None), (("main", 1, 3, done, 1),), (), (3,), None),
            ((a, None), (("main", 2, 0, ((3, 3),) + done, 1),), (), (3,), None),
            ((a, None), (("main", 2, 0, ((3, 3),) + done, 1),), (), (3,), ("value", 3)),
        ]
        state = start_state(module, [257])
        for told in states:
            self.assertEqual(state, told)
            self.assertEqual(run_of(state), (told[3], told[4]))
            self.assertEqual(depth_of(state), len(told[1]))
            state = step_state(module, state)
        self.assertEqual(state, states[-1])
        for fuel, told in enumerate(states):
            self.assertEqual(advance(module, states[0], fuel), told)
        self.assertEqual(advance(module, states[0], 1000), states[-1])

    def test_an_ended_state_stays(self):
        for text in ("return 5", "stop", "$0 = input i8 return $0", "$0 = udiv i8 1, 0 return $0", "$0 = load i8 @b return 1"):
            module = main_of(text)
            state = advance(module, start_state(module, ()), 50)
            self.assertIsNotNone(state[4])
            self.assertEqual(step_state(module, state), state)
            self.assertEqual(advance(module, state, 10), state)

    def test_arguments_are_not_changed(self):
        module = main_of("store i8 7, @a return 0")
        state = start_state(module, ())
        later = step_state(module, state)
        self.assertEqual(state[0][0], (8, (3, 4)))
        self.assertEqual(later[0][0], (8, (7, 4)))
        self.assertEqual(state, start_state(module, ()))


class Ops(unittest.TestCase):
    def test_bin_cmp_cast(self):
        for rng in sources(200):
            width = rng.choice((1, 8, 32))
            one, other = rng.randrange(2 ** width), rng.choice((0, 1, rng.randrange(2 ** width)))
            op, pred, cast = rng.choice(OPS), rng.choice(PREDS), rng.choice(CASTS)
            inner = f"$0 = input i{width} $1 = input i{width} "
            told = plain_bin(op, width, one, other)
            end = ("trap", "divide") if told is None else ("value", told)
            self.assertEqual(ended(main_of(f"{inner}$2 = {op} i{width} $0, $1 return $2", f"i{width}"), (one, other)), ((), end))
            told = plain_cmp(pred, width, one, other)
            self.assertEqual(ended(main_of(f"{inner}$2 = cmp {pred} i{width} $0, $1 return $2", "i1"), (one, other)), ((), ("value", told)))
            wide, to = (64, 16) if cast == "trunc" else (width, 64)
            number = one << 30 if cast == "trunc" else one
            told = ended(main_of(f"$0 = input i{wide} $2 = {cast} i{wide} $0 to i{to} return $2", f"i{to}"), (number,))
            self.assertEqual(told, ((), ("value", cast_told(cast, wide, to, number))))

    def test_divisions_by_nothing(self):
        for op in ("udiv", "sdiv", "urem", "srem"):
            module = main_of(f"print i8 3 $0 = {op} i8 7, 0 print i8 4 return $0")
            self.assertEqual(ended(module), ((3,), ("trap", "divide")))

    def test_select(self):
        module = main_of("$0 = input i1 $1 = select i8 $0, 5, 6 print i8 $1 $2 = select ptr $0, @a, @b $3 = load i8 $2 return $3")
        self.assertEqual(ended(module, (1,)), ((5,), ("value", 3)))
        self.assertEqual(ended(module, (0,)), ((6,), ("trap", "index")))

    def test_memory(self):
        module = main_of("""$0 = alloca i8, 3 $1 = at i8 $0, 2 $2 = load i8 $1 print i8 $2 store i8 7, $1 $3 = at i8 $1, 255
            store i8 6, $3 $4 = load i8 $1 print i8 $4 $5 = at i8 $0, 1 $6 = load i8 $5 print i8 $6 $7 = load i8 $0 return $7""")
        self.assertEqual(ended(module), ((0, 7, 6), ("value", 0)))

    def test_pointers_to_globals(self):
        module = main_of("$0 = at i64 @a, 1 $1 = load i8 $0 print i8 $1 store i8 9, $0 $2 = at i8 $0, 255 $3 = load i8 $2 print i8 $3 "
                         "$4 = load i32 @b print i32 $4 $5 = load i8 $0 return $5")
        self.assertEqual(ended(module), ((4, 3, 9), ("value", 9)))

    def test_indices(self):
        for index, told in ((0, 3), (1, 4), (2, None), (127, None), (128, None), (255, None)):
            for do in ("$2 = load i8 $1 return $2", "store i8 5, $1 $2 = load i8 $1 return $2"):
                module = main_of(f"$1 = at i8 @a, {index} {do}")
                told_here = told if told is None or "store" not in do else 5
                self.assertEqual(ended(module), ((), ("trap", "index") if told is None else ("value", told_here)))

    def test_integers_go_on_beyond_widths(self):
        module = main_of("$1 = at i64 @a, 9223372036854775807 $2 = at i64 $1, 9223372036854775807 $3 = at i64 $2, 9223372036854775809 "
                         "$4 = at i64 $3, 9223372036854775809 $5 = load i8 $4 return $5")
        state = advance(module, start_state(module, ()), 2)
        self.assertEqual(dict(state[1][0][3])[2], (0, 2 * (2 ** 63 - 1)))
        self.assertEqual(ended(module), ((), ("value", 3)))
        module = main_of("$1 = at i1 @a, 1 $2 = at i1 $1, 1 $3 = at i8 $2, 3 $4 = load i8 $3 return $4")
        self.assertEqual(ended(module), ((), ("value", 4)))

    def test_another_width(self):
        for do in ("$1 = load i16 @a return 0", "store i16 1, @a return 0", "$0 = alloca i8, 1 $1 = load i1 $0 return 0"):
            self.assertEqual(ended(main_of(do)), ((), ("trap", "index")))

    def test_inputs(self):
        module = main_of("$0 = input i8 $1 = input i1 $2 = input i64 print i8 $0 print i1 $1 print i64 $2 return 0")
        self.assertEqual(ended(module, (511, 6, 2 ** 64 + 3, 5)), ((255, 0, 3), ("value", 0)))
        self.assertEqual(ended(module, (1, 2)), ((), ("trap", "input")))
        self.assertEqual(ended(module), ((), ("trap", "input")))

    def test_a_trap_changes_nothing_but_the_end(self):
        for text, inputs in (("$0 = load i8 @b return 0", ()), ("store i8 0, @b return 0", ()), ("$1 = urem i8 0, 0 return 0", ()),
                             ("$1 = input i8 return 0", ()), ("stop", (1, 2))):
            module = main_of("print i8 1 " + text)
            state = advance(module, start_state(module, inputs), 1)
            self.assertEqual(step_state(module, state)[:4], state[:4])
            self.assertEqual(step_state(module, state)[4][0], "trap")

    def test_the_return_of_the_only_frame_changes_nothing_but_the_end(self):
        module = main_of("$0 = alloca i8, 1 return 4")
        state = advance(module, start_state(module, ()), 1)
        self.assertEqual(step_state(module, state), state[:4] + (("value", 4),))
        self.assertEqual(state[0][2], (8, (0,)))


class Ends(unittest.TestCase):
    def test_branches(self):
        module = main_of("$0 = input i1 branch $0, b1(5), b2() b1(i8 $1): return $1 b2(): return 6")
        self.assertEqual(ended(module, (1,)), ((), ("value", 5)))
        self.assertEqual(ended(module, (0,)), ((), ("value", 6)))
        module = main_of("$0 = input i1 branch $0, b1(5), b1(6) b1(i8 $1): return $1")
        self.assertEqual([ended(module, (k,))[1] for k in (1, 0)], [("value", 5), ("value", 6)])

    def test_params_become_the_args_at_once(self):
        module = main_of("jump b1(1, 2, 3, 0) b1(i8 $1, i8 $2, i8 $3, i8 $4): print i8 $1 print i8 $2 print i8 $3 "
                         "$5 = cmp eq i8 $4, 2 $6 = add i8 $4, 1 branch $5, b2(), b1($2, $3, $1, $6) b2(): return 0")
        self.assertEqual(ended(module), ((1, 2, 3, 2, 3, 1, 3, 1, 2), ("value", 0)))

    def test_calls_without_a_value(self):
        module = module_of("@a = global i8 [3] define void @f(ptr, i8){b0(): store i8 $1, $0 return} "
                           "define i8 @main(){b0(): call @f(@a, 7) $0 = load i8 @a return $0}")
        self.assertEqual(ended(module), ((), ("value", 7)))

    def test_objects_of_a_call_are_gone(self):
        """A pointer to what is gone can only stay within the call that made it or those above; a number can be handed back."""
        module = module_of("""
            define i8 @f(){b0(): $0 = alloca i8, 1 $1 = alloca i16, 2 call @g($0) $2 = load i8 $0 return $2}
            define void @g(ptr){b0(): $1 = load i8 $0 print i8 $1 $2 = alloca i8, 1 store i8 9, $0 return}
            define i8 @main(){b0(): $0 = alloca i32, 1 $1 = call @f() $2 = alloca i8, 1 $3 = call @f() return $3}""")
        state = start_state(module, ())
        while state[4] is None:
            state = step_state(module, state)
        self.assertEqual(state[0], ((32, (0,)), None, None, None, (8, (0,)), None, None, None))
        self.assertEqual(run_of(state), ((0, 0), ("value", 9)))

    def test_the_only_object_is_gone(self):
        module = module_of("define void @f(){b0(): $0 = alloca i8, 1 return} define i8 @main(){b0(): call @f() call @f() return 1}")
        states = [advance(module, start_state(module, ()), fuel) for fuel in (2, 3, 5, 6)]
        self.assertEqual([state[0] for state in states], [((8, (0,)),), (None,), (None, (8, (0,))), (None, None)])

    def test_pointers_to_what_is_gone(self):
        """A state may hold one, although no admitted module makes one by itself: a load and a store meet a trap."""
        for do in ("$1 = load i8 $0 return $1", "store i8 1, $0 return 1"):
            module = main_of(f"$0 = alloca i8, 1 {do}")
            objects, frames, inputs, outputs, end = advance(module, start_state(module, ()), 1)
            state = (objects[:2] + (None,), frames, inputs, outputs, end)
            self.assertEqual(run_of(step_state(module, state)), ((), ("trap", "index")))

    def test_calls_of_main(self):
        module = main_of("$0 = input i1 branch $0, b1(), b2() b1(): $1 = alloca i8, 1 $2 = call @main() print i8 $2 return 5 b2(): return 6")
        self.assertEqual(ended(module, (1, 1, 0)), ((6, 5), ("value", 5)))

    def test_a_value_given_again(self):
        module = main_of("jump b1(0) b1(i8 $1): $2 = add i8 $1, 1 $3 = cmp eq i8 $2, 3 branch $3, b2(), b1($2) b2(): return $2")
        state = advance(module, start_state(module, ()), 7)
        self.assertEqual(state[1], (("main", 1, 0, ((1, 2), (2, 2), (3, 0)), 2),))
        self.assertEqual(ended(module), ((), ("value", 3)))


class Runs(unittest.TestCase):
    def test_fuel(self):
        module = main_of("print i8 1 print i8 2 return 3")
        self.assertEqual([run_module(module, (), fuel) for fuel in range(5)],
                         [((), None), ((1,), None), ((1, 2), None), ((1, 2), ("value", 3)), ((1, 2), ("value", 3))])
        self.assertEqual([whole_run(module, (), most) for most in (0, 1, 2)], [None, None, None])
        for most in (3, 4, 10000000):
            self.assertEqual(whole_run(module, (), most), (((1, 2), ("value", 3)), 3))

    def test_traps_take_fuel(self):
        for text, took in (("stop", 1), ("print i8 1 $0 = input i8 return 0", 2), ("$0 = load i16 @a return 0", 1)):
            self.assertEqual(whole_run(main_of(text), (), 9)[1], took)
            self.assertIsNone(whole_run(main_of(text), (), took - 1))

    def test_more_inputs(self):
        module = main_of("$0 = input i8 print i8 $0 $1 = input i8 return $1")
        self.assertEqual(ended(module, (1,)), ((1,), ("trap", "input")))
        self.assertEqual(ended(module, (1, 2)), ended(module, (1, 2, 3, 4)))
        self.assertEqual(deeds_of(module, (1, 2), 9), deeds_of(module, [1, 2, 3], 9))

    def test_deeds(self):
        module = main_of("print i8 9 $0 = input i8 print i8 $0 $1 = input i1 print i8 8 stop")
        whole = (("print", 9), ("input", 44), ("print", 44), ("input", 1), ("print", 8), ("end", ("trap", "stop")))
        for fuel, count in enumerate((0, 1, 2, 3, 4, 5, 6, 6, 6)):
            self.assertEqual(deeds_of(module, [300, 3], fuel), whole[:count])
        self.assertEqual(deeds_of(module, [300], 99), whole[:3] + (("end", ("trap", "input")),))

    def test_many_rounds(self):
        module = main_of("jump b1(0, 0) b1(i32 $1, i32 $2): $3 = add i32 $1, 1 $4 = add i32 $2, $3 $5 = cmp eq i32 $3, 50000 "
                         "branch $5, b2(), b1($3, $4) b2(): return $4", "i32")
        self.assertEqual(whole_run(module, (), 10000000), (((), ("value", 50000 * 50001 // 2 % 2 ** 32)), 1 + 4 * 50000 + 1))
        self.assertEqual(run_module(module, (), 200001), ((), None))

    def test_deep_calls(self):
        module = module_of("""define i32 @f(i32) { b0(): $1 = cmp eq i32 $0, 0 branch $1, b1(), b2() b1(): return 0
            b2(): $2 = sub i32 $0, 1 $3 = alloca i8, 1 $4 = call @f($2) $5 = add i32 $4, 1 return $5 }
            define i32 @main() { b0(): $0 = input i32 $1 = call @f($0) return $1 }""")
        for depth in (300, 30000):
            self.assertEqual(whole_run(module, [depth], 10000000), (((), ("value", depth)), 7 * depth + 6))
        state = advance(module, start_state(module, [700]), 5 * 700 + 2)
        self.assertEqual(depth_of(state), 702)
        self.assertEqual(advance(module, state, 10 ** 6), advance(module, start_state(module, [700]), 10 ** 6))

    def test_endless_calls(self):
        module = main_of("$0 = call @main() return $0")
        state = advance(module, start_state(module, ()), 5000)
        self.assertEqual(depth_of(state), 5001)
        self.assertIsNone(whole_run(module, (), 5000))


class AtRandom(unittest.TestCase):
    def test_steps(self):
        for rng in sources(250, seed=1):
            module = admitted_module(rng)
            inputs = [rng.randrange(2 ** rng.randint(1, 70)) for _ in range(rng.randint(0, 5))]
            states = [start_state(module, inputs)]
            for _ in range(80):
                states.append(plain_step(module, states[-1]))
                self.assertEqual(step_state(module, states[-2]), states[-1])
            for _ in range(5):
                one, other = rng.randint(0, 80), rng.randint(0, 80)
                first, second = min(one, other), max(one, other)
                self.assertEqual(advance(module, states[first], second - first), states[second])
                self.assertEqual(run_module(module, inputs, second), run_of(states[second]))
                self.assertTrue(is_run(run_of(states[second])))
                self.assertTrue(is_beginning(run_of(states[first]), run_of(states[second])))
            ends = [fuel for fuel, state in enumerate(states) if state[4] is not None]
            self.assertEqual(whole_run(module, inputs, 80), (run_of(states[-1]), ends[0]) if ends else None)
            self.check_inputs(module, inputs, states[-1])

    def check_inputs(self, module, inputs, last):
        taken = len(inputs) - len(last[2])
        if last[4] != ("trap", "input"):
            self.assertEqual(run_module(module, inputs + [1, 2], 80), run_of(last))
            self.assertEqual(run_module(module, inputs[:taken], 80), run_of(last))
        deeds = deeds_of(module, inputs, 80)
        self.assertEqual(tuple(told for word, told in deeds if word == "print"), last[3])
        self.assertEqual(len([1 for word, _ in deeds if word == "input"]), taken)
        self.assertEqual([told for word, told in deeds if word == "end"], [last[4]] if last[4] else [])
        self.assertTrue(agree_so_far(run_module(module, inputs, 30), run_of(last)))
        self.assertEqual(deeds[:len(deeds_of(module, inputs, 30))], deeds_of(module, inputs, 30))


if __name__ == "__main__":
    unittest.main()
