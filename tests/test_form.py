"""Promise 2, form: how structures are written."""

import unittest

from tests.lines import ask, form_of, formula_form


class Brackets(unittest.TestCase):
    def test_atoms(self):
        self.assertEqual(formula_form("a"), "a")
        self.assertEqual(formula_form("~a"), "~a")
        self.assertEqual(formula_form("((a))*(~b)"), "a*~b")

    def test_first_half_has_them_always(self):
        self.assertEqual(formula_form("(a*b)*c"), "(a*b)*c")
        self.assertEqual(formula_form("(a|b)*c"), "(a|b)*c")
        self.assertEqual(formula_form("(a*b)|c"), "(a*b)|c")
        self.assertEqual(formula_form("(a|b)|c"), "(a|b)|c")
        self.assertEqual(formula_form("((a*b)*c)*d"), "((a*b)*c)*d")

    def test_second_half_has_them_with_the_other_sign(self):
        self.assertEqual(formula_form("a*(b*c)"), "a*b*c")
        self.assertEqual(formula_form("a|(b|c)"), "a|b|c")
        self.assertEqual(formula_form("a*(b|c)"), "a*(b|c)")
        self.assertEqual(formula_form("a|(b*c)"), "a|(b*c)")
        self.assertEqual(formula_form("a*(b*(c|(d|e)))"), "a*b*(c|d|e)")

    def test_both_halves(self):
        self.assertEqual(formula_form("(a*b)*(c*d)"), "(a*b)*c*d")
        self.assertEqual(formula_form("(a|b)|(c*d)"), "(a|b)|(c*d)")

    def test_long_names(self):
        self.assertEqual(form_of("abcdefghijkl|~z9,~abcdefghijkl*z9;;0-2 1-3"),
                         "abcdefghijkl|~z9, ~abcdefghijkl*z9 ;  ; 0-2 1-3")


class Structures(unittest.TestCase):
    def test_first_of_a_line(self):
        text = b"a, ~a ;  ; 0-1"
        self.assertEqual(ask("form"), [[len(text)] + list(text)])

    def test_without_cuts(self):
        self.assertEqual(form_of("a*b,~a|~b;;0-2 1-3"), "a*b, ~a|~b ;  ; 0-2 1-3")

    def test_with_cuts(self):
        self.assertEqual(form_of("a,~a;a;0-3 1-2"), "a, ~a ; a ; 0-3 1-2")
        self.assertEqual(form_of("a,~a;b-oc,~d;0-1 2-4 3-5 6-7"), "a, ~a ; ~b|c, ~d ; 0-1 2-4 3-5 6-7")

    def test_without_conclusions(self):
        self.assertEqual(form_of(";a;0-1"), " ; a ; 0-1")

    def test_empty(self):
        self.assertEqual(form_of(";;"), " ;  ; ")

    def test_links_of_more_digits(self):
        sequent = ", ".join(["a*~a"] * 7)
        links = "0-13 1-2 3-4 5-6 7-8 9-10 11-12"
        self.assertEqual(form_of(sequent + ";;   " + links + "  "), sequent + " ;  ; " + links)


class SetAgain(unittest.TestCase):
    def test_same_form(self):
        for text in (";;", "a,~a;;0-1", "(a*(b*c))|~d,~a|~b|~c,d;;0-4 1-5 2-6 3-7",
                     "a-ob-oc,~(a-ob-oc);~(a|b),b;0-3 1-4 2-5 6-8 7-9 10-11", ";a*(b|c)*d;0-4 1-5 2-6 3-7"):
            form = form_of(text)
            self.assertEqual(form_of(form), form)

    def test_deepest(self):
        for text in ("a", "~abcdefghijkl"):
            left = "(" * 39 + text + "".join("|" + text + ")" for place in range(39))
            zigzag = text
            for place in range(39):
                zigzag = "(" + text + "*|"[place % 2] + zigzag + ")"
            for formula in (left, zigzag):
                links = " ".join("%d-%d" % (leaf, leaf + 40) for leaf in range(40))
                form = form_of("%s,~%s;;%s" % (formula, formula, links))
                self.assertEqual(form_of(form), form)


if __name__ == "__main__":
    unittest.main()
