"""[11], [12]: writing and reading."""

import unittest

from anypasses.errors import InvalidText
from anypasses.forms import is_function, is_module
from anypasses.reading import read_module, read_op
from anypasses.tokens import tokens_of
from anypasses.writing import ending_text, module_text, op_text
from making import admitted_module, loose_function, sources
from test_forms import ENDINGS, MODULE, OPS_OF_EACH_FORM

A, B, G = ("v", 3), ("n", 4), ("g", "t")
OP_TEXTS = (
    ((0, "bin", ("ashr", 64), (A, B)), "$0 = ashr i64 $3, 4"),
    ((0, "cmp", ("sle", 1), (G, B)), "$0 = cmp sle i1 @t, 4"),
    ((10, "select", (8,), (A, B, G)), "$10 = select i8 $3, 4, @t"),
    ((10, "select", ("ptr",), (A, G, G)), "$10 = select ptr $3, @t, @t"),
    ((1, "cast", ("zext", 8, 16), (A,)), "$1 = zext i8 $3 to i16"),
    ((1, "cast", ("sext", 1, 1), (B,)), "$1 = sext i1 4 to i1"),
    ((1, "cast", ("trunc", 8, 64), (B,)), "$1 = trunc i8 4 to i64"),
    ((1, "alloca", (8, 0), ()), "$1 = alloca i8, 0"),
    ((1, "at", (8,), (A, B)), "$1 = at i8 $3, 4"),
    ((1, "load", (8,), (G,)), "$1 = load i8 @t"),
    ((1, "input", (8,), ()), "$1 = input i8"),
    ((None, "store", (8,), (A, G)), "store i8 $3, @t"),
    ((None, "print", (32,), (("n", 2 ** 64 - 1),)), "print i32 18446744073709551615"),
    ((1, "call", ("f",), (A, B)), "$1 = call @f($3, 4)"),
    ((None, "call", ("f",), ()), "call @f()"),
)
END_TEXTS = (
    (("jump", (7, ())), "jump b7()"), (("jump", (7, (A, B, G))), "jump b7($3, 4, @t)"),
    (("branch", A, (0, ()), (1, (B,))), "branch $3, b0(), b1(4)"), (("return", A), "return $3"),
    (("return", None), "return"), (("stop",), "stop"),
)
SAMPLE = """@a = global i1 [0, 1] @t = global i8 []
define void @f(ptr, i8) { b0(): $2 = add i8 $1, 3 store i8 $2, $0 $3 = cmp ult i16 1, 2 return b4(i8 $5, ptr $6):
$7 = select ptr $3, $0, @t print i8 $2 $8 = zext i8 $2 to i16 $9 = alloca i32, 7 $10 = at i8 $6, 1 $11 = load i8 $10
$12 = input i64 call @g($2, @a) $13 = call @main() branch $3, b4($2, @t), b9() b9(): jump b4(1, $0) b10(): stop }
define i8 @main() { b0(): return 7 }"""


def mixed(rng, text):
    """The tokens of a text with any space between."""
    out = ""
    for _, token in tokens_of(text):
        space = "".join(rng.choices(" \n", k=rng.randint(0, 2)))
        if space == "" and out and out[-1] not in "()[]{},:=" and token[0] not in "()[]{},:=$@":
            space = " "
        out += space + token
    return out + rng.choice(("", " ", "\n\n"))


class Writing(unittest.TestCase):
    def test_ops(self):
        for op, text in OP_TEXTS:
            self.assertEqual(op_text(op), text)
            self.assertEqual(read_op(text), op)

    def test_endings(self):
        for end, text in END_TEXTS:
            self.assertEqual(ending_text(end), text)

    def test_modules(self):
        self.assertEqual(module_text(((), ())), "")
        self.assertEqual(module_text(((("t", 8, 0, ()),), ())), "@t = global i8 []")
        self.assertEqual(
            module_text(read_module(SAMPLE)).split("\n")[:10],
            ["@a = global i1 [0, 1]", "@t = global i8 []", "define void @f(ptr, i8) {", "b0():", "  $2 = add i8 $1, 3",
             "  store i8 $2, $0", "  $3 = cmp ult i16 1, 2", "  return", "b4(i8 $5, ptr $6):",
             "  $7 = select ptr $3, $0, @t"])
        self.assertEqual(module_text(read_module(SAMPLE)).split("\n")[-4:],
                         ["define i8 @main() {", "b0():", "  return 7", "}"])


class ReadingBack(unittest.TestCase):
    def test_ops(self):
        for rng, op in zip(sources(len(OPS_OF_EACH_FORM)), OPS_OF_EACH_FORM):
            self.assertEqual(read_op(op_text(op)), op)
            self.assertEqual(read_op(mixed(rng, op_text(op))), op)

    def test_endings(self):
        for end in ENDINGS:
            module = ((), (("f", (), None, ((0, (), (), end), (1, (), (), ("stop",)))),))
            self.assertEqual(read_module(module_text(module)), module)

    def test_modules(self):
        self.assertEqual(read_module(""), ((), ()))
        self.assertEqual(read_module(" \n"), ((), ()))
        self.assertEqual(read_module(module_text(MODULE)), MODULE)
        for rng in sources(150):
            for module in (admitted_module(rng), ((), (loose_function(rng),))):
                self.assertEqual(read_module(module_text(module)), module)
                self.assertEqual(read_module(mixed(rng, module_text(module))), module)

    def test_what_is_read_has_the_form(self):
        self.assertTrue(is_module(read_module(SAMPLE)))
        self.assertTrue(is_function(read_module(SAMPLE)[1][0]))

    def test_equal_exactly_with_equal_texts(self):
        modules = [((), (loose_function(rng),)) for rng in sources(60, seed=5)]
        for one in modules:
            for other in modules:
                self.assertEqual(one == other, module_text(one) == module_text(other))


# The sign ~ marks where the text without it is refused.
REFUSED_MODULES = (
    " ~) ", "~7", "~$t", "~a", "~#", "~global", "@t ~", "@t ~global", "@t = ~i8", "@t = global ~[", "@t = global ~ptr [0]",
    "@t = global ~i7 [0]", "@t = global ~i08 [0]", "@t = global ~8 [0]", "@t = global i8 ~0", "@t = global i8 [~,", "@t = global i8 [0~",
    "@t = global i8 [0 ~1]", "@t = global i8 [0,~]", "@t = global i8 [0, ~$1]", "@t = global i8 [~00]", "@t = global i8 [~01]",
    "@t = global i8 [~-1]", "@t = global i8 [255, ~256]", "@t = global i1 [1, ~2]", "@t = global i16 [65535, ~65536]",
    "@t = global i32 [4294967295, ~4294967296]", "@t = global i64 [18446744073709551615, ~18446744073709551616]",
    "@t = global i64 [~99999999999999999999999]", "@t = global i8 [~a]", "@t = global i8 [~@a]", "@t = global i8 [] ~;",
    "~@7 = global i8 [0]", "~@7a = global i8 [0]", "@b = global i8 [0] ~@a = global i8 [0]",
    "@b = global i8 [0] ~@b = global i8 [0]", "@b = global i8 [] ~@B", "@b = global i8 [] ~$c", "@b = global i8 [] ~[",
    "define~", "define ~ptr @f", "define ~i2 @f", "define ~@f", "define void ~f", "define void ~$f", "define void ~@7f",
    "@f = global i8 [0] define void ~@f(){b0(): stop}", "@f = global i8 [] @g = global i8 [] define i8 ~@f",
    "define void @f(){b0(): stop} define void ~@e(){b0(): stop}", "define void @f(){b0(): stop} define void ~@f(",
    "define void @f(){b0(): stop} ~@z = global i8 [0]", "define void @f ~{", "define void @f(~,", "define void @f(~void)",
    "define void @f(i8~", "define void @f(i8 ~i8)", "define void @f(i8,~)", "define void @f(i8 ~$0)", "define void @f() ~b0",
    "define void @f() {~}", "define void @f() {~stop}", "define void @f() {~0():", "define void @f() {~b", "define void @f() {~b():",
    "define void @f() {~b01():", "define void @f() {~b18446744073709551616():", "define void @f() {~c0():", "define void @f() {b0 ~:",
    "define void @f() {b0(~$1", "define void @f() {b0(i8 ~1", "define void @f() {b0(i8 $1 ~$2", "define void @f() {b0(i8 $1,~):",
    "define void @f() {b0(i8 ~@t", "define void @f() {b0(~void", "define void @f() {b0(i8 ~$01",
    "define void @f() {b0(i8 ~$18446744073709551616", "define void @f() {b0(i8 ~$x", "define void @f() {b0() ~stop",
    "define void @f() {b0(): ~}", "define void @f() {b0(): ~b1", "define void @f() {b0(): ~add", "define void @f() {b0(): stop ~stop",
    "define void @f() {b0(): stop ~;", "define void @f() {b0(): stop } ~}", "define void @f() {b0(): stop } ~b1():",
    "define void @f() {b0(): stop b1 ~}", "define void @f() {b0(): jump ~0", "define void @f() {b0(): jump b0 ~}",
    "define void @f() {b0(): jump b0(~,", "define void @f() {b0(): jump b0($1,~)", "define void @f() {b0(): jump b0($1 ~1)",
    "define void @f() {b0(): jump b0(~i8 1)", "define void @f() {b0(): jump b0() ~,", "define void @f() {b0(): branch ~b0()",
    "define void @f() {b0(): branch 1 ~b0()", "define void @f() {b0(): branch 1, ~$1", "define void @f() {b0(): branch 1, b0() ~b0()",
    "define void @f() {b0(): branch 1, b0(), ~}", "define void @f() {b0(): return ~,", "define void @f() {b0(): return ~i8",
    "define void @f() {b0(): return ~stop", "define void @f() {b0(): return ~void", "define void @f() {b0(): return 1 ~1",
    "define void @f() {b0(): return ~01", "define void @f() {b0(): return ~$01", "define void @f() {b0(): return ~@1",
    "define void @f() {b0(): return ~b", "define void @f() {b0(): return 18446744073709551615 ~,",
    "define void @f() {b0(): return ~18446744073709551616", "define void @f() {b0(): return } ~)",
    "define void @f() {b0(): ~$", "define void @f() {b0(): $1 ~add", "define void @f() {b0(): $1 = ~stop",
    "define void @f() {b0(): $1 = ~store i8 1, 2", "define void @f() {b0(): $1 = ~print i8 1", "define void @f() {b0(): ~input i8",
    "define void @f() {b0(): ~@a", "define void @f() {b0(): ~1",
)
REFUSED_OPS = (
    "~", "  ~", "~stop", "~return", "~jump b0()", "~define", "~b0", "~7 = add", "~@f", "$1~", "$1 ~add", "$1 = ~add2", "$1 = ~eq",
    "$1 = ~store", "$1 = ~print", "$1 = ~return", "$1 = ~$2", "$1 = ~7", "$1 = ~i8", "$1 =~", "~$01 = add", "~$a = add",
    "~$18446744073709551616 = add", "$18446744073709551615 =~", "$1 = add ~ptr", "$1 = add ~7", "$1 = add ~$1", "$1 = add i8 ~,",
    "$1 = add i8 1~", "$1 = add i8 1 ~2", "$1 = add i8 1,~", "$1 = add i8 1, ~i8", "$1 = add i8 1, 2 ~,", "$1 = add i8 1, 2 ~3",
    "$1 = add i8 1, 2 ~$3", "$1 = add i8 1, 2 ~stop", "$1 = add i8 1, 2 ~;", "$1 = add i8 ~007, 2", "$1 = add i8 1, ~$7a",
    "$1 = add i8 ~18446744073709551616, 2", "$1 = cmp ~i8", "$1 = cmp ~add", "$1 = cmp eq ~1", "$1 = cmp eq ~ptr",
    "$1 = cmp eq i8 1, 2 ~,", "$1 = select ~1", "$1 = select ~void", "$1 = select ptr ~,", "$1 = select i8 1, 2~",
    "$1 = select i8 1, 2 ~3", "$1 = select i8 1, 2, 3 ~,", "$1 = zext ~ptr", "$1 = zext i8 1~", "$1 = zext i8 1 ~i16",
    "$1 = zext i8 1 ~, 2", "$1 = zext i8 1 to ~ptr", "$1 = zext i8 1 to ~16", "$1 = zext i8 1 to i16 ~,", "$1 = alloca ~ptr",
    "$1 = alloca i8~", "$1 = alloca i8 ~7", "$1 = alloca i8, ~$7", "$1 = alloca i8, ~@t", "$1 = alloca i8, ~07",
    "$1 = alloca i8, ~18446744073709551616", "$1 = alloca i8, 7 ~,", "$1 = at ~ptr", "$1 = at i8 $1 ~2", "$1 = at i8 $1, 2 ~,",
    "$1 = load ~ptr", "$1 = load i8 ~;", "$1 = load i8 $2 ~,", "$1 = input ~ptr", "$1 = input i8 ~1", "$1 = input i8 ~,",
    "store ~$1", "store i8 1 ~2", "store i8 1, 2 ~,", "print ~1", "print i8~", "print i8 1 ~,", "call ~f", "call ~$f",
    "call ~@1f", "call @f~", "call @f ~$1", "call @f(~,", "call @f(1~", "call @f(1 ~2)", "call @f(1,~)", "call @f() ~)",
    "$1 = call ~@1", "$1 = call @f(~i8 1)", "~#", "$1 = add i8 1, 2 ~$",
)


class Refusing(unittest.TestCase):
    def refused(self, read, marked):
        text, at = marked.replace("~", ""), marked.index("~")
        with self.assertRaises(InvalidText, msg=marked) as caught:
            read(text)
        self.assertEqual(caught.exception.at, at, marked)

    def test_modules(self):
        for marked in REFUSED_MODULES:
            self.assertEqual(marked.count("~"), 1, marked)
            self.refused(read_module, marked)

    def test_ops(self):
        for marked in REFUSED_OPS:
            self.refused(read_op, marked)

    def test_no_string(self):
        for read in (read_module, read_op):
            for value in (None, 0, True, b"", ["@t"], (), MODULE):
                with self.assertRaises(InvalidText) as caught:
                    read(value)
                self.assertEqual(caught.exception.at, 0)

    def test_cut_anywhere(self):
        whole = tokens_of(SAMPLE)
        ends = [at for at, (_, token) in enumerate(whole) if token in ("]", "}")]
        for at in range(len(whole)):
            text = SAMPLE[:whole[at][0]] + "  "
            if at - 1 in ends or at == 0:
                read_module(text)
            else:
                self.refused(read_module, text + "~")
                self.refused(read_module, text + "~;")

    def test_one_token_too_many_or_missing_or_another(self):
        """Where a token is refused, what stands ahead of it goes on in some way; what is not refused goes on, too."""
        whole = tokens_of(SAMPLE)
        words = sorted({token for _, token in whole} | {"18446744073709551616", "00", "b00", "$00", "@0", "i9", "ptr"})
        tails = [" ".join(token for _, token in whole[at:]) for at in range(len(whole))] + [""]
        tails += ["} ", ": stop }", "b0(): stop }", "(): stop }", "0, 0 stop }", ", 0 stop }", "0 stop }", "() stop }",
                  "i8 0 stop }", "i8 stop }", "= input i8 stop }", "to i8 stop }", "i8 stop }", "i8, 0 stop }", "b0() }",
                  "b0(), b0() }", ", b0() }", "b0(), b0(), b0() }", "@zz() {b0(): stop}", "{b0(): stop}", "[]", "i8 []",
                  "= global i8 []", "global i8 []", ") stop }", "): stop }", "0, b0(), b0() }", "0) }", ", b0(), b0() }",
                  ") {b0(): stop}", "eq i8 0, 0 stop}", "i8 0, 0 stop }", "i8 0, 0, 0 stop }", ", 0, 0 stop }", "]", "0]",
                  "i8 0 to i8 stop }", "0 to i8 stop }", "@f() stop }", "i8) {b0(): stop}", "i8 $0): stop }", "$0): stop }",
                  "0) stop }", "(i8): stop}", ", 0, 0, 0 stop}", "0, 0, 0 stop }", "), b0() }", "0), b0() }", ")}"]
        told = {}
        for rng in sources(100, seed=3):
            at = rng.randrange(len(whole))
            ahead = " ".join(token for _, token in whole[:at])
            for word in rng.sample(words, 12):
                text = f"{ahead} {word}"
                try:
                    read_module(text)
                    told[text] = True
                except InvalidText as error:
                    self.assertIn(error.at, (len(ahead) + 1, len(text)), text)
                    told[text] = error.at == len(text)
        going = [text for text in told if told[text]]
        self.assertGreater(len(going), 80)
        for text in going:
            self.assertTrue(any(self.is_read(f"{text} {tail}") for tail in tails), text)

    def is_read(self, text):
        try:
            read_module(text)
        except InvalidText:
            return False
        return True

    def test_long_numbers(self):
        for figures in ("9" * 21, "1" + "0" * 5000, "9" * 40000):
            self.refused(read_op, f"print i8 ~{figures}")
            self.refused(read_op, f"~${figures} = input i8")


if __name__ == "__main__":
    unittest.main()
