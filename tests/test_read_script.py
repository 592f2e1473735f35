"""`read_script`, `is_shown` and `tidied`."""

import unittest

from quotedback.errors import Unreadable
from quotedback.readings import is_shown, read_script, tidied
from quotedback.texts import show_script
from quotedback.trees import commands_in, is_script
from tests.building import A, B, C, D, bare, do, held_here, here, lists_in, name, run
from tests.growing import Grower

GROUP = ("group", [A], [])


class ReadScriptTest(unittest.TestCase):
    def check(self, text, *script):
        with self.subTest(text=text):
            read = read_script(text)
            self.assertEqual(read, list(script))
            self.assertTrue(is_script(read))
            self.assertEqual(read_script(show_script(read)), read)

    def refuse(self, *texts):
        for text in texts:
            with self.subTest(text=text):
                for reader in (read_script, tidied):
                    with self.assertRaises(Unreadable) as caught:
                        reader(text)
                    self.assertEqual(caught.exception.value, text)
                self.assertIs(is_shown(text), False)

    def test_commands_parted(self):
        for text in ("", " ", "\n", " \n \n", "# a", "#", " # a ; b\n\n#"):
            self.check(text)
        for text in ("a\nb", "a;b", "a ; b", "a;\n\n b;", "\n\na\n\n\nb\n\n", "  a  \n  b  ", "a;\n#c\nb", "a #c\n#d\nb",
                     "#c\na;#d\nb # e"):
            self.check(text, A, B)
        self.refuse(";", ";a", "a;;", "a;;b", "a; ;b", "a\n;b", "\n;", "a;b;;", "a;;\nb", "a &", "a & b", "&", "a b)", "a\n)",
                    ")", "a }", "}", "a\n}", "{", "(", "()", "( )", "(\n)", "(;)", "a (b)", "a ((b))")

    def test_comments(self):
        self.check("a # b 'c\nd", A, D)
        self.check("(#x\na)#y", ("apart", [A], []))
        self.check("a|#x\nb&&#y\n#z\nc", ("and", ("pipe", [A, B]), C))
        self.check("f()#x\n{ #y\na;#z\n}", ("make", "f", GROUP))
        self.check("case a in #x\n(b)#y\na;;#z\nesac", ("case", bare("a"), [(bare("b") and [bare("b")], [A])], []))
        self.check("for x #x\ndo a;done", ("each", "x", None, [A], []))
        self.check("for x in a;#x\n\ndo #y\na\ndone", ("each", "x", [bare("a")], [A], []))
        self.check("a $(#x)\nb #)\n)", do("a", [run(B)]))
        self.check("a\\  #b", do([("bare", "a"), ("mark", " ")]))
        self.refuse("a#b", "a'b'#c", "a\\ #b", "$x#b", "$(a)#b", "x=#b", "a >f#b", "if#b", "if a\nthen#\nb\nfi", "{#\na\n}",
                    "{ a\n}#b", "a >&1#b", "! a;!#b", "a <<E#b\nE\n", "a <<'E'#b\nE\n", "f(#)\n)\n{ a\n}", "for x#\ndo a\ndone",
                    "for x in#\ndo a\ndone", "a ># b", "a >#\nb")

    def test_words_sets_and_turns(self):
        self.check("a b", do("a", "b"))
        self.check("x=1 y= z=$x", do(sets=[("x", "1"), ("y", []), ("z", [name("x")])]))
        self.check("x= a x=1", do("a", "x=1", sets=[("x", [])]))
        self.check("x==1 if", do("if", sets=[("x", "=1")]))
        self.check("x=1 ! fi", do("!", "fi", sets=[("x", "1")]))
        self.check("x\\=1 1x=2 =3", do([("bare", "x"), ("mark", "="), ("bare", "1")], "1x=2", "=3"))
        self.check("'x'=1", do([("held", "x"), ("bare", "=1")]))
        self.check("a if then", do("a", "if", "then"))
        self.check("a !", do("a", "!"))
        self.check("ifx 'if' i\\f if'' !a !!", do("ifx", [("held", "if")], [("bare", "i"), ("mark", "f")],
                                              [("bare", "if"), ("held", "")], "!a", "!!"))
        self.check("if'x' a", do([("bare", "if"), ("held", "x")], "a"))
        self.check("!'x'", do([("bare", "!"), ("held", "x")]))
        self.refuse("a 'b", 'a "b', "a $(b", "a ${x", "a\\", "a `b`", "a {", "a {b}", "a }b", "a ^", "x={", "x=(a)", ">f a",
                    "a >f b", "a >f x=1", ">f x=1")

    def test_turns(self):
        f = bare("f")
        for mark, usual in (("<", 0), (">", 1), (">>", 1)):
            self.check("a" + mark + "f", do("a", turns=[(usual, mark, f)]))
            self.check("a  " + mark + "  f", do("a", turns=[(usual, mark, f)]))
            self.check("x=" + mark + "f", do(sets=[("x", [])], turns=[(usual, mark, f)]))
            for number in (0, 1, 2):
                self.check(str(number) + mark + "f", do(turns=[(number, mark, f)]))
                self.check("a " + str(number) + mark + "f", do("a", turns=[(number, mark, f)]))
                self.check("a" + str(number) + mark + "f", do("a" + str(number), turns=[(usual, mark, f)]))
                self.check("x=" + str(number) + mark + "f", do(sets=[("x", str(number))], turns=[(usual, mark, f)]))
                self.check("a''" + str(number) + mark + "f", do([("bare", "a"), ("held", ""), ("bare", str(number))],
                                                               turns=[(usual, mark, f)]))
        self.check("a 3>f", do("a", "3", turns=[(1, ">", f)]))
        self.check("a 12>f", do("a", "12", turns=[(1, ">", f)]))
        self.check("a 2 >f", do("a", "2", turns=[(1, ">", f)]))
        self.check("a<f>f2>f", do("a", turns=[(0, "<", f), (1, ">", bare("f2")), (1, ">", f)]))
        self.check("(a)2>f", ("apart", [A], [(2, ">", f)]))
        for end in "012-":
            self.check("a >&" + end, do("a", turns=[(1, ">&", bare(end))]))
            self.check("a 0>& " + end + ";b", do("a", turns=[(0, ">&", bare(end))]), B)
        self.refuse("a >", "a <", "a >>", "a >&", "a <<", "a >;", "a > >f", "a >>>f", "a <>f", "a <&1", "a >&3", "a >&12",
                    "a >&f", "a >&-1", "a >&'1'", "a >&\\1", "a >&$x", "a > &1", "a > > f", "a >|f", "a >&1>f", "a >1>f",
                    "a <<1>f\n1\n", "a >\nf", "a >(f)")

    def test_pipes_and_lists(self):
        self.check("a|b | c", ("pipe", [A, B, C]))
        self.check("a|\n\n b", ("pipe", [A, B]))
        self.check("a&&b", ("and", A, B))
        self.check("a||\n \nb", ("or", A, B))
        self.check("a && \nb || c&&d", ("and", ("or", ("and", A, B), C), D))
        self.check("! a", ("not", A))
        self.check("! a|b && ! c", ("and", ("not", ("pipe", [A, B])), ("not", C)))
        self.check("!(a)", ("not", ("apart", [A], [])))
        self.check("!>f", ("not", do(turns=[(1, ">", bare("f"))])))
        self.check("a|(b)|{ c;}", ("pipe", [A, ("apart", [B], []), ("group", [C], [])]))
        self.check("a | f()\n{ a;} | b", ("pipe", [A, ("make", "f", GROUP), B]))
        self.check("{ a;}&&a", ("and", GROUP, A))
        self.refuse("|", "a|", "|a", "a|\n", "a||", "a&&", "&&a", "a\n|b", "a\n&&b", "a| |b", "a|||b", "a&&&b", "a&& &&b",
                    "a|;b", "a&&;b", "!", "! ", "!\na", "!;", "! ! a", "a|! b", "! a|! b", "!|a", "!{ a;}",
                    "!{ a\n}", "a | fi", "a && then")
        self.check("a!", do("a!"))
        self.check("!a", do("!a"))

    def test_groups_and_aparts(self):
        for text in ("{ a;}", "{ a; }", "{\n\na\n}", "{ a;\n\n}", "{ \n a ; }", "{ #\na\n }"):
            self.check(text, GROUP)
        for text in ("(a)", "( a )", "(\n\na\n\n)", "(a;)", "(a;\n)", "( a ; )"):
            self.check(text, ("apart", [A], []))
        self.check("((a))", ("apart", [("apart", [A], [])], []))
        self.check("{ { a;};}", ("group", [GROUP], []))
        self.check("{ (a);}>f", ("group", [("apart", [A], [])], [(1, ">", bare("f"))]))
        self.check("{>f;}", ("group", [do(turns=[(1, ">", bare("f"))])], []))
        self.check("{(a);}", ("group", [("apart", [A], [])], []))
        self.refuse("{a;}", "{{ a;};}", "{ a}", "{ a }", "{ a;}}", "{ a;} }", "{ }", "{}", "{\n}", "{ ;}", "{;a;}", "{ a;}b",
                    "{ a;} b", "{ a;}2>f", "(a", "(a))", "(a)b", "(a) b", "(a)(b)", "{ (a)}", "{ a;;}", "(a;;)", "(a; ;)",
                    "{\"a\";}", "{ a", "{ a;", "(a\n}", "{ a\n)", "{'a'\n}", "{ a;}'b'")

    def test_ifs(self):
        for text in ("if a;then b;fi", "if a\nthen b\nfi", "if\n\na\n\nthen\n\nb\n\nfi", "if a ; then b ; fi",
                     "if a;\n\nthen\n b;\n fi\n"):
            self.check(text, ("if", [([A], [B])], None, []))
        self.check("if a;b;then c;d;elif a;then b;else c;fi>f",
                   ("if", [([A, B], [C, D]), ([A], [B])], [C], [(1, ">", bare("f"))]))
        self.check("if a\nthen b\nelse\nif a\nthen b\nfi\nfi", ("if", [([A], [B])], [("if", [([A], [B])], None, [])], []))
        self.check("if(a)\nthen(b)\nfi|c", ("pipe", [("if", [([("apart", [A], [])], [("apart", [B], [])])], None, []), C]))
        self.refuse("if", "if a", "if a;fi", "if a;then b", "if a;then fi", "if;then b;fi", "if a then b;fi", "if a;then b fi",
                    "if a;then;b;fi", "if (a)then b;fi", "if a;then (b)fi", "if a;then b;else fi", "if a;then b;elif c;fi",
                    "if a;then b;else c;else d;fi", "if a;then b;else c;elif d;then e;fi", "if a;then b;fi c", "then", "fi",
                    "elif a", "else", "if a;then b;done", "if a\n;then b;fi", "if a;do b;fi", "fi}", "if{ a;}\nthen b\nfi",
                    "if a;then b;fi{", "if a;then{ b;}\nfi", "if a;;then b;fi")

    def test_loops(self):
        for word in ("while", "until"):
            for text in (" a;do b;done", "\n\na\n\ndo\n\nb\n\ndone", " a ; do b ; done"):
                self.check(word + text, (word, [A], [B], []))
            self.check(word + " a;b\ndo c;d;done <f", (word, [A, B], [C, D], [(0, "<", bare("f"))]))
            self.refuse(word, word + " a", word + " a;done", word + " a;do done", word + " a do b;done", word + ";do a;done",
                        word + " a;do b done", word + " a;do;b;done", word + " a;then b;done", word + " a;do b;fi",
                        word + " a;do b;done c")
        self.refuse("do", "done", "do a;done", "while a;do(b)done")
        self.check("done2>f", do("done2", turns=[(1, ">", bare("f"))]))

    def test_eaches(self):
        for text in ("for x;do a;done", "for x\ndo a;done", "for x ;\n\ndo\n\na\n\ndone", "for x\n\n\n do a\ndone", "for  x\ndo\na\ndone"):
            self.check(text, ("each", "x", None, [A], []))
        for text in ("for x in;do a;done", "for x in\ndo a;done", "for x in ;\ndo a\ndone"):
            self.check(text, ("each", "x", [], [A], []))
        self.check("for x in a 'b' do;do a;done", ("each", "x", [bare("a"), [("held", "b")], bare("do")], [A], []))
        self.check("for in in in\ndo a\ndone>f", ("each", "in", [bare("in")], [A], [(1, ">", bare("f"))]))
        self.check("for do;do a;done", ("each", "do", None, [A], []))
        self.check("for x in 12 x=1 ! \n do a\ndone", ("each", "x", [bare("12"), bare("x=1"), bare("!")], [A], []))
        self.refuse("for", "for;do a;done", "for x", "for x;", "for x do a;done", "for x in a do b;done", "for 1;do a;done",
                    "for x=1;do a;done", "for 'x';do a;done", "for $x;do a;done", "for x y;do a;done", "for x;;do a;done",
                    "for x\n;do a;done", "for x in a>f;do a;done", "for x in 1>f;do a;done", "for x in'a';do a;done",
                    "for x in a|b;do a;done", "for\nx;do a;done", "for x\nin a;do a;done", "for x;in a;do b;done",
                    "for x;do done", "for x;do;a;done", "for x;do a done", "for x;{ a;}", "for x in (a);do a;done",
                    "for x.y;do a;done", "for x;do a;done b", "for x in{;do a;done")

    def test_cases(self):
        arm = ([bare("b")], [C])
        for text in ("case a in b)c;;esac", "case a in (b) c ;; esac", "case a in\n\n( b )\n\nc\n\n;;\n\nesac", "case a in b)c;esac",
                     "case a in b)c\nesac", "case a in (b)\nc\n;;esac", "case a in b)c; ;;esac", "case a in(b)c;;esac",
                     "case a in b) c;\n\nesac"):
            self.check(text, ("case", bare("a"), [arm], []))
        for text in ("case a in esac", "case a in\n\nesac", "case  a  in  esac"):
            self.check(text, ("case", bare("a"), [], []))
        for text in ("case a in b)esac", "case a in b);;esac", "case a in (b)\n\n;;\nesac", "case a in b)\nesac"):
            self.check(text, ("case", bare("a"), [([bare("b")], [])], []))
        self.check("case in in in|esac|'x')a;b;;if)c;;esac|d",
                   ("pipe", [("case", bare("in"), [([bare("in"), bare("esac"), [("held", "x")]], [A, B]), ([bare("if")], [C])],
                              []), D]))
        self.check("case a in ('esac') ;; (b)\nc\nesac >f", ("case", bare("a"), [([[("held", "esac")]], []), arm],
                                                          [(1, ">", bare("f"))]))
        self.check("case $(case a in esac) in esac", ("case", [run(("case", bare("a"), [], []))], [], []))
        self.check("case a in b) (c) ;; esac", ("case", bare("a"), [([bare("b")], [("apart", [C], [])])], []))
        self.refuse("case", "case a", "case a in", "case\na in esac", "case a\nin esac", "case a;in esac", "case in esac",
                    "case a b in esac", "case a in b esac", "case a in b)c esac", "case a in b)c", "case a in b)c;;",
                    "case a in (esac)c;;esac", "case a in esac)c;;esac", "case a in (esac|b)c;;esac", "case a in ()c;;esac",
                    "case a in )c;;esac", "case a in (b|)c;;esac", "case a in (b||c)c;;esac", "case a in (b c)d;;esac",
                    "case a in (b\n)c;;esac", "case a in (\nb)c;;esac", "case a in b|\nc)d;;esac", "case a in b)c;;;esac",
                    "case a in b)c;;d;;esac", "case a in b)c;d)e;;esac", "case a in b)c;fi)d;;esac", "case a in b);esac", "case a in b);c;;esac",
                    "case a in;esac", "case a in ;; esac", "case a in b)c;;;;esac", "case a in b)(c)esac", "esac", "in",
                    "case a in b) c;; esac d", "case a in'b')c;;esac", "case >f in esac", "case 1>f in esac",
                    "case a in ((b))c;;esac")

    def test_makes(self):
        for text in ("f(){ a;}", "f ( ) { a;}", "f()\n\n{\na\n}", "f  (  )\n{ a\n}"):
            self.check(text, ("make", "f", GROUP))
        self.check("f()(a)>f", ("make", "f", ("apart", [A], [(1, ">", bare("f"))])))
        self.check("_1()if a;then b;fi", ("make", "_1", ("if", [([A], [B])], None, [])))
        self.check("x() for x;do a;done;b", ("make", "x", ("each", "x", None, [A], [])), B)
        self.check("f()case a in esac", ("make", "f", ("case", bare("a"), [], [])))
        self.check("f() while a;do b;done && c", ("and", ("make", "f", ("while", [A], [B], [])), C))
        self.refuse("f()", "f() a", "f();{ a;}", "f(){a;}", "f( a){ a;}", "f(\n){ a;}", "f\n(){ a;}", "f)", "f(", "f(a)", "1f(){ a;}",
                    "f.g(){ a;}", "'f'(){ a;}", "$f(){ a;}", "x=1 f(){ a;}", "f g(){ a;}", "f()g(){ a;}", "f()!{ a;}", "f()! a",
                    "f() x=1", "f()>f", "if(){ a;}", "in(){ a;}", "f()()")
        for word in ("echo", "read", "exit", "test", "set", "cat", "order", "list", "make"):
            self.refuse(word + "(){ a;}", word + " ( ) (a)")

    def test_here_texts(self):
        text = here(("plain", "hi "), name("x"), ("plain", "\n"))
        for script in ("a <<E\nhi $x\nE\n", "a<<E\nhi $x\nE\n", "a <<  x=1! # b\nhi $x\nx=1!\n", "a <<E;\nhi $x\nE\n",
                       "a 0<<if\nhi ${x}\nif\n\n"):
            self.check(script, do("a", turns=[text]))
        self.check("a <<E\nE\n", do("a", turns=[here()]))
        self.check("a <<'E'\nE\n", do("a", turns=[held_here("")]))
        self.check("a 2<<'E' >f\nit's $x \\ `\n E\nE \nE\n", do("a", turns=[
            (2, "<<", [("held", "it's $x \\ `\n E\nE \n")]), (1, ">", bare("f"))]))
        self.check("a <<E\n\"\\\"\\$\\\\\\`\\a\\\n'#\nE\n", do("a", turns=[here(("plain", "\"\\\"$\\`\\a\\\n'#\n"))]))
        self.check("a <<E\n${x-\"a b\"}$(b)\nE\n", do("a", turns=[here(
            name("x", "lack", False, [("wide", [("plain", "a b")])]), run(B), ("plain", "\n"))]))
        self.refuse("a <<E", "a <<E\n", "a <<E\nE", "a <<E\nhi", "a <<E\nhi\n", "a <<E\n E\n", "a <<E\nE \n", "a <<E\n$\nE\n",
                    "a <<E\n`\nE\n", "a <<E\n${x\nE\n}\nE\n", "a <<E\n$(a\nE\n)\n", "a <<\nE\nE\n", "a <<''\n\n", "a <<'a b'\na b\n",
                    "a <<\"E\"\nE\n", "a <<$x\n$x\n", "a <<\\E\nE\n", "a <<E'F'\nEF\n", "a <<'E'F\nEF\n", "a <<'E\nE\n",
                    "a <<E b\nE\n", "a <<<E\nE\n", "a <<#\n#\n", "a <<E | b", "a <<E <<F\nE\n", "a <<E <<F\nF\nE\n", "(a <<E\n)\nE\n")

    def test_where_here_texts_begin(self):
        one, two = here(("plain", "1\n")), held_here("2\n")
        self.check("a <<E <<'F'\n1\nE\n2\nF\n", do("a", turns=[one, two]))
        self.check("a <<E;b <<'E'\n1\nE\n2\nE\nc", do("a", turns=[one]), do("b", turns=[two]), C)
        self.check("a <<E |\n1\nE\nb", ("pipe", [do("a", turns=[one]), B]))
        self.check("a <<E && b 'x\ny'\n1\nE\n", ("and", do("a", turns=[one]), do("b", [("held", "x\ny")])))
        self.check("a <<E;b $(c\nd)\n1\nE\n", do("a", turns=[one]), do("b", [run(C, D)]))
        self.check("(a <<E)\n1\nE\n", ("apart", [do("a", turns=[one])], []))
        self.check("{ a <<E\n1\nE\n}", ("group", [do("a", turns=[one])], []))
        self.check("{ a\n} <<E\n1\nE\n", ("group", [A], [one]))
        self.check("if a <<E;then\n1\nE\nb;fi", ("if", [([do("a", turns=[one])], [B])], None, []))
        self.check("case a in (b) c <<E;;\n1\nE\nesac", ("case", bare("a"), [([bare("b")], [do("c", turns=[one])])], []))
        self.check("a $(b <<E\n1\nE\n) <<'F'\n2\nF\n", do("a", [run(do("b", turns=[one]))], turns=[two]))
        self.check("a \"$(b <<E\n1\nE\n)\"", do("a", [("wide", [run(do("b", turns=[one]))])]))
        self.check("a <<E\n$(b <<F\n1\nF\n)\nE\n", do("a", turns=[here(run(do("b", turns=[one])), ("plain", "\n"))]))
        self.check("a <<E # <<F\n1\nE\n", do("a", turns=[one]))
        self.refuse("a $(b <<E)\n1\nE\n", "a $(b <<E\n1\nE)\n", "a <<E $(b)\n1\nE\n", "a <<E\n$(b <<E\n1\nE\n)\nE\n")

    def test_key_words(self):
        for word in ("if", "then", "elif", "else", "fi", "while", "until", "do", "done", "for", "in", "case", "esac", "{", "}"):
            self.refuse(word, word + " a", word + "{", word + "}", word + ";")
            if word not in "{}":
                self.check("a " + word, do("a", word))
                self.check("x= " + word, do(word, sets=[("x", [])]))
                self.check("'" + word + "'", do([("held", word)]))
                self.check(word + "''", do([("bare", word), ("held", "")]))
                self.check(word + "=", do(sets=[(word, [])]))

    def test_grown_scripts_are_read_as_they_were(self):
        for seed in range(400):
            script = Grower(seed).script(3)
            text = show_script(script)
            self.assertEqual(read_script(text), script)
            self.assertTrue(is_shown(text))
            self.assertEqual(tidied(text), text)

    def test_sizes_and_depths(self):
        self.assertEqual(commands_in(read_script("a b\n" * 210)), 210)
        self.assertEqual(len(read_script("a;" * 4000)), 4000)
        for opening, closing in (("{ ", ";}"), ("(", ")"), ("if a;then ", ";fi"), ("while ", ";do a;done"),
                                 ("for x;do ", ";done"), ("case a in a)", ";;esac"), ("a $(", ")"), ("! { ", ";}"),
                                 ("f(){ ", ";}"), ("a|{ ", ";}"), ("a \"$(", ")\"")):
            script = read_script(opening * 11 + "a" + closing * 11)
            self.assertEqual(read_script(show_script(script)), script)
        for opening, closing in (("(", ")"), ("a $(", ")"), ("{ ", ";}"), ("x=$(", ")")):
            self.refuse(opening * 30, opening * 30 + "a" + closing * 30 + "|")
        text = "a"
        for _ in range(10):
            text = "a && { " + text + ";}"
        self.assertEqual(read_script(tidied(text)), read_script(text))

    def test_is_shown(self):
        for text in ("", "a", "a | b", "a\nb", "if\na\nthen\nb\nfi", "x=1 a >f", "a <<E\nE\n", "a $( (\na\n))", "a ${x}y $x-"):
            self.assertIs(is_shown(text), True, text)
        for text in (" ", "a\n", "a;b", "a|b", "a  b", " a", "a 1>f", "a 0<f", "a > f", "${x}", "$((1+1))", "a <<F\nF\n",
                     "a <<E\nE\n\n", "case a in a) ;;\nesac", "a # b", "\"\\a\"\\", "$((a))b'", "(a)", "f() {\na\n}"):
            self.assertIs(is_shown(text=text), False, text)

    def test_tidied(self):
        self.assertEqual(tidied(text="a;b #c\n\n(c;d)>f"), "a\nb\n(\nc\nd\n) >f")
        self.assertEqual(tidied("case a in b|c)d;;e)esac"), "case a in\n(b | c)\nd\n;;\n(e)\n;;\nesac")
        self.assertEqual(tidied("f ( ) { a;}"), "f()\n{\na\n}")
        self.assertEqual(tidied("for x in a;do b;done"), "for x in a\ndo\nb\ndone")
        self.assertEqual(tidied("a ${x}- \"\\a\\$\" $(((1)))"), "a $x- \"\\\\a\\$\" $((1))")
        self.assertEqual(tidied("a <<F <<'F'\nE\n\"\nF\nE\nEE\nF\n"), "a <<EE <<'EEE'\nE\n\"\nEE\nE\nEE\nEEE\n")
        self.assertEqual(tidied(""), "")

    def test_lists_are_new(self):
        script = read_script("a ${x-b} $(c) <<E >&2\n$x\nE\ncase a in (b) c;; esac")
        self.assertEqual(len(lists_in(script)), len(set(lists_in(script))))
        self.assertNotEqual(set(lists_in(script)) & set(lists_in(read_script("a"))), set(lists_in(script)))
