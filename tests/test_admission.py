"""[15]: admission."""

import unittest

from anypasses.admission import admitted, module_fault
from anypasses.errors import InvalidModule
from anypasses.parts import part_places
from anypasses.reading import read_module
from making import admitted_module, sources

NEAR = """@t = global i8 [1, 2]
define i8 @f(i8, ptr) { b0(): %s }
define void @g(i16) { b0(): return }
define i8 @main() { b0(): $0 = input i8 return $0 }
"""
# What the function f of NEAR may be without a fault.
LET = (
    "return $0", "return 255", "stop", "$2 = add i8 $0, 255 return $2", "$2 = cmp ult i64 18446744073709551615, 0 return 7",
    "$2 = cmp eq i8 $0, 1 $3 = select i8 $2, $0, 7 return $3", "$2 = select ptr 1, @t, $1 $3 = load i8 $2 return $3",
    "$2 = zext i8 $0 to i16 $3 = sext i16 $2 to i64 $4 = trunc i64 $3 to i1 jump b1($4) b1(i1 $9): return 0",
    "$2 = trunc i64 18446744073709551615 to i32 return 0", "$2 = alloca i8, 1 store i8 $0, $2 return 0",
    "$2 = alloca i64, 1000 $3 = at i64 $2, 18446744073709551615 $4 = at i1 $3, 1 return 0", "print i8 255 print i1 1 return 0",
    "$2 = input i1 branch $2, b1(), b1() b1(): return $0", "$2 = call @f($0, @t) return $2", "call @g(65535) return 3",
    "$2 = call @f(1, $1) call @g(1) $3 = call @main() return $3", "branch 0, b1($1), b2(3) b1(ptr $8): stop b2(i8 $9): return $9",
    "return 1 b1(): $2 = add i8 $3, $2 $3 = input i8 jump b1()", "return 1 b7(i8 $9): jump b7($9)",
    "return 1 b1(): jump b2($5) b2(i8 $5): $6 = add i8 $7, $5 $7 = add i8 $6, $6 jump b1()",
    "jump b2() b1(): jump b2() b2(): stop", "store i64 18446744073709551615, $1 return 0",
    "$2 = load i64 @t return 0", "stop b1(): return 3",
)
# Faults of the function f of NEAR; the sign ! stands ahead of the part that is told.
FAULTS = (
    # blocks
    "stop !b0(): stop", "jump b1() b1(): stop !b1(): stop", "stop b1(): stop b2(): stop !b1(): stop",
    "jump b1(1) !b1(i8 $0): stop", "jump b1(1, 1) !b1(i8 $5, i8 $5): stop", "$5 = input i8 jump b1(1) !b1(i8 $5): stop",
    "branch 1, b1(1), b2(1) b1(i8 $5): stop !b2(i8 $5): stop", "stop b1(): $5 = input i8 stop !b2(i8 $5): stop",
    "stop !b1(i8 $1): stop", "stop !b1(i8 $5, ptr $5): stop",
    # values defined before
    "!$0 = input i8 stop", "!$1 = input i8 stop", "$2 = input i8 !$2 = input i8 stop", "$2 = input i8 jump b1() b1(): !$2 = input i8 stop",
    "jump b1(1) b1(i8 $2): !$2 = input i8 stop", "stop b1(): $2 = input i8 !$2 = input i8 stop",
    "$2 = input i8 stop b1(): !$2 = alloca i8, 1 stop", "!$0 = call @f(1, @t) stop", "!$0 = cmp eq i8 1, 1 stop",
    # sizes, casts, calls
    "!$2 = alloca i8, 0 stop", "!$2 = alloca i8, 1001 stop", "!$2 = alloca i1, 18446744073709551615 stop",
    "!$2 = zext i8 1 to i8 stop", "!$2 = zext i8 1 to i1 stop", "!$2 = sext i8 1 to i8 stop", "!$2 = sext i16 1 to i8 stop",
    "!$2 = trunc i8 1 to i8 stop", "!$2 = trunc i8 1 to i16 stop", "stop b1(): !$2 = trunc i8 1 to i64 stop",
    "!$2 = call @h() stop", "!call @h() stop", "!call @t() stop", "!$2 = call @t() stop", "!call @f(1, @t) stop",
    "!$2 = call @g(1) stop", "!call @main() stop", "stop b3(): !call @none() stop",
    # the count of a call's args
    "!$2 = call @f(1) stop", "!$2 = call @f(1, @t, 1) stop", "!$2 = call @f() stop", "!call @g() stop", "!call @g(1, 1) stop",
    "!$2 = call @main(1) stop",
    # numbers that are too great or stand for pointers
    "!$2 = add i8 256, 1 stop", "!$2 = add i8 1, 256 stop", "!$2 = add i1 2, 1 stop", "!$2 = cmp eq i8 256, 1 stop",
    "!$2 = cmp slt i16 1, 65536 stop", "!$2 = select i8 2, 1, 1 stop", "!$2 = select i8 1, 256, 1 stop",
    "!$2 = select i8 1, 1, 256 stop", "!$2 = select ptr 1, 1, @t stop", "!$2 = select ptr 1, @t, 1 stop",
    "!$2 = zext i8 256 to i16 stop", "!$2 = trunc i32 4294967296 to i8 stop", "!$2 = at i8 1, 1 stop", "!$2 = at i8 @t, 256 stop",
    "!$2 = load i8 0 stop", "!store i8 256, @t stop", "!store i8 1, 0 stop", "!print i8 256 stop", "!print i1 2 stop",
    "!$2 = call @f(256, @t) stop", "!$2 = call @f(1, 1) stop", "!call @g(65536) stop", "!branch 2, b1(), b1() b1(): stop",
    "!jump b1(256) b1(i8 $5): stop", "!jump b1(1) b1(ptr $5): stop", "!branch 1, b1(), b2(256) b1(): stop b2(i8 $5): stop",
    "!return 256",
    # globals that are none, or stand for numbers
    "!$2 = add i8 @t, 1 stop", "!$2 = cmp eq i8 1, @t stop", "!$2 = select i8 @t, 1, 1 stop", "!$2 = select i8 1, @t, 1 stop",
    "!$2 = select ptr 1, @t, @s stop", "!$2 = zext i8 @t to i16 stop", "!$2 = at i8 @s, 1 stop", "!$2 = at i8 @t, @t stop",
    "!$2 = load i8 @s stop", "!$2 = load i8 @f stop", "!store i8 @t, @t stop", "!store i8 1, @s stop", "!print i8 @t stop",
    "!$2 = call @f(@t, @t) stop", "!$2 = call @f(1, @main) stop", "!branch @t, b1(), b1() b1(): stop", "!jump b1(@t) b1(i8 $5): stop",
    "!jump b1(@s) b1(ptr $5): stop", "!return @t",
    # values of another type
    "!$2 = add i16 $0, 1 stop", "!$2 = add i8 1, $1 stop", "!$2 = cmp eq i16 $0, $0 stop", "!$2 = select i8 $0, 1, 1 stop",
    "!$2 = select i8 1, $1, 1 stop", "!$2 = select ptr 1, $0, $1 stop", "!$2 = zext i16 $0 to i32 stop", "!$2 = at i8 $0, 1 stop",
    "!$2 = at i16 $1, $0 stop", "!$2 = load i8 $0 stop", "!store i16 $0, $1 stop", "!store i8 $0, $0 stop", "!print i16 $0 stop",
    "!print i8 $1 stop", "!$2 = call @f($1, $1) stop", "!$2 = call @f($0, $0) stop", "!call @g($0) stop",
    "!branch $0, b1(), b1() b1(): stop", "!branch $1, b1(), b1() b1(): stop", "!jump b1($0) b1(i16 $5): stop",
    "!jump b1($0) b1(ptr $5): stop", "!branch 1, b1(), b2($1) b1(): stop b2(i8 $5): stop", "!return $1",
    "$2 = cmp eq i8 1, 1 !return $2", "$2 = add i8 1, 1 !branch $2, b1(), b1() b1(): stop", "$2 = zext i8 1 to i32 !print i8 $2 stop",
    "$2 = alloca i8, 1 !print i8 $2 stop", "$2 = at i8 @t, 1 !print i8 $2 stop", "$2 = select ptr 1, @t, @t !print i8 $2 stop",
    "$2 = load i16 @t !print i8 $2 stop", "$2 = input i16 !print i8 $2 stop", "$2 = call @main() !print i16 $2 stop",
    # values that do not stand
    "!print i8 $2 stop", "!print i8 $2 $2 = input i8 stop", "!$2 = add i8 $2, 1 stop", "!$2 = add i8 1, $2 stop",
    "branch 1, b1(), b2() b1(): $5 = input i8 jump b2() b2(): !print i8 $5 stop",
    "branch 1, b1(), b2() b1(): !print i8 $5 stop b2(): $5 = input i8 stop", "jump b1() b1(): !print i8 $5 jump b2() b2(): $5 = input i8 jump b1()",
    "!print i8 $5 stop b1(): $5 = input i8 stop", "!jump b1($5) b1(i8 $5): stop", "!branch 1, b1($5), b1(1) b1(i8 $5): stop",
    "!return $7", "jump b1(1) b1(i8 $5): jump b2() b2(): !$6 = add i8 $6, $5 stop", "stop b1(): !print i8 $7 stop",
    "stop b1(): !branch 1, b1(), b2($7) b2(i8 $8): stop", "!store i8 1, $9 stop", "!store i8 $9, $1 stop",
    "branch 1, b1(1), b2() b1(i8 $5): jump b2() b2(): !return $5", "!$2 = call @f($3, @t) stop", "!$2 = load i8 $3 stop",
    # targets
    "!jump b0()", "!branch 1, b0(), b1() b1(): stop", "!branch 1, b1(), b0() b1(): stop", "!jump b9()", "!branch 1, b9(), b1() b1(): stop",
    "!branch 1, b1(), b9() b1(): stop", "stop b1(): !jump b0()", "stop b1(): !jump b9()", "jump b1() b1(): !jump b0()",
    "!jump b1(1) b1(): stop", "!jump b1() b1(i8 $5): stop", "!jump b1(1) b1(i8 $5, i8 $6): stop",
    "!branch 1, b1(1, 1), b2() b1(i8 $5): stop b2(i8 $6): stop", "!branch 1, b1(), b2(1, 1) b1(i8 $5): stop b2(i8 $6): stop",
    "!branch 1, b1(), b1(1) b1(): stop", "stop b1(): !jump b2(1) b2(): stop",
    # returns
    "!return", "stop b1(): !return", "stop b1(): !return 256",
    # two faults, the first one first
    "!print i8 256 print i8 256 return", "stop !b1(i8 $0): print i8 256 stop", "!print i8 256 stop b0(): stop",
    "!jump b9() b9(i8 $0): stop", "stop !b0(i8 $0): $0 = input i8 jump b0()",
)
# Whole modules, with the place of the first faulty part.
MODULES = (
    ("@t = global i8 [] define i8 @main(){b0(): stop}", ("global", 0)),
    ("@s = global i8 [0] @t = global i64 [] define i8 @main(i8){b0(): stop}", ("global", 1)),
    ("define i8 @main(i8){b0(): stop}", ("function", 0)),
    ("define void @main(){b0(): stop}", ("function", 0)),
    ("define void @main(ptr){b0(): stop}", ("function", 0)),
    ("define void @a(i8){b0(): stop} define i8 @main(ptr, i8){b0(i8 $0): stop}", ("function", 1)),
    ("define i8 @main(){b0(i8 $0): stop}", ("block", 0, 0)),
    ("define i8 @main(){b0(ptr $0, ptr $1): return}", ("block", 0, 0)),
    ("define i8 @a(i8){b0(i8 $0): stop} define i8 @main(){b0(): stop}", ("block", 0, 0)),
    ("define void @a(){b0(): return 1} define i8 @main(){b0(): stop}", ("end", 0, 0)),
    ("define void @a(){b0(): stop b1(): return 1} define i8 @main(){b0(): stop}", ("end", 0, 1)),
    ("define i8 @a(){b0(): return 1} define i8 @main(){b0(): $0 = call @main() print i8 $1 stop}", ("op", 1, 0, 1)),
    ("define i8 @main(){b0(): print i8 $0 stop} define i8 @z(){b0(): $0 = input i8 stop}", ("op", 0, 0, 0)),
    ("@t = global i8 [] define void @a(i8){b0(): return 1}", ("global", 0)),
)


class Admission(unittest.TestCase):
    def faulty(self, text, place):
        module = read_module(text)
        at = part_places(module).index(place)
        self.assertEqual(module_fault(module), at, text)
        with self.assertRaises(InvalidModule) as caught:
            admitted(module)
        self.assertEqual(caught.exception.at, at)

    def test_no_fault(self):
        for inner in LET:
            module = read_module(NEAR.replace("%s", inner))
            self.assertIsNone(module_fault(module), inner)
            self.assertIs(admitted(module), module)

    def test_no_fault_at_random(self):
        for rng in sources(300):
            module = admitted_module(rng)
            self.assertIsNone(module_fault(module))
            self.assertEqual(admitted(module), module)

    def test_faults_in_a_function(self):
        for marked in FAULTS:
            self.assertEqual(marked.count("!"), 1, marked)
            inner = marked.replace("!", "")
            module = read_module(NEAR.replace("%s", inner))
            ahead = read_module(NEAR.replace("%s", self.whole(marked[:marked.index("!")])))
            places = [place for place in part_places(module) if place[:2] in (("block", 0), ("op", 0), ("end", 0))]
            count = len([place for place in part_places(ahead) if place[:2] in (("block", 0), ("op", 0), ("end", 0))])
            self.faulty(NEAR.replace("%s", inner), places[count - self.added(marked[:marked.index("!")])])

    def whole(self, ahead):
        """What stands ahead of a mark, with an ending if it has none."""
        return ahead if self.added(ahead) == 0 else ahead + " stop"

    def added(self, ahead):
        """1 if the last block ahead of a mark wants an ending."""
        try:
            read_module(NEAR.replace("%s", ahead))
        except ValueError:
            return 1
        return 0

    def test_faults_of_modules(self):
        for text, place in MODULES:
            self.faulty(text, place)

    def test_functions_with_the_names_of_ops(self):
        for word in ("trunc", "zext", "add", "call", "none"):
            names = sorted((word, "main"))
            texts = {"main": f"define i8 @main(){{b0(): $0 = call @{word}(1) return $0}}",
                     word: f"define i8 @{word}(i8){{b0(): $1 = call @{word}($0) return $1}}"}
            self.assertIsNone(module_fault(read_module(texts[names[0]] + texts[names[1]])))

    def test_sizes_of_globals(self):
        main = (("main", (), 8, ((0, (), (), ("stop",)),)),)
        for size in (0, 1, 2, 999, 1000, 1001, 1002):
            module = ((("t", 8, size, (0,) * size),), main)
            self.assertEqual(module_fault(module), None if 1 <= size <= 1000 else 0)

    def test_no_main(self):
        for text in ("", "@t = global i8 [0]", "define i8 @Main(){b0(): stop}", "@main = global i8 [0] define void @f(i8){b0(): return}"):
            module = read_module(text)
            self.assertEqual(module_fault(module), len(part_places(module)))
            with self.assertRaises(InvalidModule) as caught:
                admitted(module)
            self.assertEqual(caught.exception.at, len(part_places(module)))
        self.faulty("define i8 @a(){b0(): return}", ("end", 0, 0))

    def test_first_of_two_faults(self):
        rng = sources(1)[0]
        for _ in range(200):
            one, other = rng.sample([marked for marked in FAULTS if "b0()" not in marked], 2)
            texts = [NEAR.replace("%s", marked.replace("!", "")) for marked in (one, other)]
            first = read_module(texts[0])
            second = read_module(texts[1])
            both = (first[0], first[1][:2] + second[1][2:] + (("z",) + second[1][0][1:],))
            self.assertEqual(module_fault(both), module_fault(first))

    def test_many_parts(self):
        ops = tuple((at, "bin", ("add", 8), (("v", at - 1), ("n", 1))) for at in range(1, 2000))
        blocks = ((0, (), ((0, "input", (8,), ()),) + ops, ("jump", (1, ()))),) + tuple(
            (at, (), (), ("branch", ("n", 1), (at, ()), (at + 1, ()))) for at in range(1, 199)) + ((199, (), (), ("return", ("v", 7))),)
        self.assertIsNone(module_fault(((), (("main", (), 8, blocks),))))


if __name__ == "__main__":
    unittest.main()
