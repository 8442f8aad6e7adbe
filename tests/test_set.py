"""Promise 1, set: what is taken, what is refused, and in which order."""

import unittest

from tests.lines import ask, ask_of, form_of, formula_form, halves, neighbours, set_answer

TOO_DEEP = "*".join(["a"] * 61)


class Semicolons(unittest.TestCase):
    def test_just_two(self):
        self.assertEqual(set_answer("a, ~a"), [-1])
        self.assertEqual(set_answer("a, ~a ; 0-1"), [-1])
        self.assertEqual(set_answer("a, ~a ; ; 0-1"), [2])
        self.assertEqual(set_answer("a, ~a ; ; 0-1 ;"), [-1])
        self.assertEqual(set_answer("; a, ~a ; ; 0-1"), [-1])
        self.assertEqual(set_answer(""), [-1])
        self.assertEqual(set_answer(";"), [-1])
        self.assertEqual(set_answer(";;"), [0])
        self.assertEqual(set_answer(";;;"), [-1])


class Sequents(unittest.TestCase):
    def test_empty_and_blank(self):
        for text in (";;", " ;;", "; ;", ";; ", "   ;  ;    "):
            self.assertEqual(ask(("set", text), "form"), [[0], [6] + list(b" ;  ; ")])

    def test_many_blanks_are_the_empty_sequent(self):
        self.assertEqual(set_answer(" " * 3990 + ";;"), [0])
        self.assertEqual(set_answer(";" + " " * 3990 + ";"), [0])

    def test_empty_piece_between_commas(self):
        for sequent in (",", " , ", "a,", ",~a", "a,,~a", "a, ,~a", "a,~a,", "a,~a, "):
            self.assertEqual(set_answer(sequent + ";; 0-1"), [-1])
            self.assertEqual(set_answer("a,~a;" + sequent + "; 0-1"), [-1])

    def test_twenty_conclusions(self):
        twenty = ", ".join(["a, ~a"] * 10)
        self.assertEqual(set_answer(twenty + " ; ; " + neighbours(20)), [20])
        self.assertEqual(set_answer(twenty + ", a ; ; " + neighbours(20)), [-1])
        self.assertEqual(set_answer(twenty + ", a ; ~a ; " + neighbours(22)), [-1])

    def test_twenty_cuts(self):
        twenty = ", ".join(["a"] * 20)
        self.assertEqual(set_answer(" ; " + twenty + " ; " + neighbours(40)), [40])
        self.assertEqual(set_answer(" ; " + twenty + ", a ; " + neighbours(42)), [-1])

    def test_twenty_of_each(self):
        twenty = ", ".join(["a, ~a"] * 10)
        self.assertEqual(set_answer(twenty + ";" + twenty + ";" + neighbours(60)), [60])


class Tokens(unittest.TestCase):
    def test_name_of_twelve_bytes(self):
        twelve = "abcdefgh0129"
        thirteen = twelve + "z"
        self.assertEqual(set_answer("%s, ~%s ;; 0-1" % (twelve, twelve)), [2])
        self.assertEqual(set_answer("%s, ~%s ;; 0-1" % (thirteen, thirteen)), [-1])

    def test_every_name_byte(self):
        for byte in range(256):
            letter = 97 <= byte <= 122
            digit = 48 <= byte <= 57
            alone = [byte, 44, 126, byte] + list(b";;0-1")
            behind = [97, byte, 44, 126, 97, byte] + list(b";;0-1")
            self.assertEqual(set_answer(alone), [2] if letter else [-1])
            self.assertEqual(set_answer(behind), [2] if letter or digit or byte == 32 else [-1])

    def test_stretch_that_begins_with_a_digit(self):
        for stretch in ("1", "1a", "0", "12", "9zz"):
            self.assertEqual(set_answer("%s, ~%s ;; 0-1" % (stretch, stretch)), [-1])
        self.assertEqual(set_answer("a1, ~a1 ;; 0-1"), [2])
        self.assertEqual(set_answer("a*1, ~a|~a ;; 0-2 1-3"), [-1])

    def test_no_other_byte_beside_a_name(self):
        for byte in range(256):
            text = [97, 32, byte, 32] + list(b", ~a ;; 0-1")
            self.assertEqual(set_answer(text), [2] if byte == 32 else [-1])

    def test_blanks_between_tokens(self):
        self.assertEqual(formula_form("  ( a  *b )|  ~ c  "), "(a*b)|~c")
        self.assertEqual(set_answer("a b, ~a ;; 0-1"), [-1])
        self.assertEqual(set_answer("ab, ~a b ;; 0-1"), [-1])

    def test_arrow_is_two_bytes(self):
        self.assertEqual(formula_form("a-ob"), "~a|b")
        self.assertEqual(formula_form("a-oo"), "~a|o")
        self.assertEqual(form_of("a-oob,~(~a|ob);;0-2 1-3"), "~a|ob, a*~ob ;  ; 0-2 1-3")
        for text in ("a - o b", "a-b", "a-", "a -O b", "a o- b", "a--ob", "-o"):
            self.assertEqual(set_answer(text + ", ~a ;; 0-1"), [-1])
            self.assertEqual(set_answer(text + ", a*~b ;; 0-2 1-3"), [-1])


class Formulas(unittest.TestCase):
    def test_tilde_turns_a_part(self):
        self.assertEqual(formula_form("~(a*b)"), "~a|~b")
        self.assertEqual(formula_form("~(a|b)"), "~a*~b")
        self.assertEqual(formula_form("~(~a|(b*(c|d)))"), "a*(~b|(~c*~d))")
        self.assertEqual(formula_form("~a*b"), "~a*b")
        self.assertEqual(formula_form("~~a"), "a")
        self.assertEqual(formula_form("~ ~ ~(a)"), "~a")
        self.assertEqual(formula_form("~(a-ob)"), "a*~b")
        self.assertEqual(formula_form("~~(a*b)*c"), "(a*b)*c")
        self.assertEqual(formula_form("~((a))"), "~a")

    def test_arrow(self):
        self.assertEqual(formula_form("a -o b"), "~a|b")
        self.assertEqual(formula_form("a -o b -o c"), "~a|~b|c")
        self.assertEqual(formula_form("(a -o b) -o c"), "(a*~b)|c")
        self.assertEqual(formula_form("a -o (b -o c)"), "~a|~b|c")
        self.assertEqual(formula_form("a*b -o c*d"), "(~a|~b)|(c*d)")
        self.assertEqual(formula_form("a|b -o c*d -o e|f"), "(~a*~b)|(~c|~d)|e|f")
        self.assertEqual(formula_form("a*(b -o c)"), "a*(~b|c)")
        self.assertEqual(formula_form("(a -o b)*c -o d"), "((a*~b)|~c)|d")
        self.assertEqual(formula_form("~a -o b"), "a|b")

    def test_chains(self):
        self.assertEqual(formula_form("a*b*c"), "a*b*c")
        self.assertEqual(formula_form("a|b|c|d"), "a|b|c|d")
        self.assertEqual(formula_form("(a*b)*c"), "(a*b)*c")
        self.assertEqual(formula_form("a*(b*c)"), "a*b*c")
        self.assertEqual(formula_form("(a|b)*(c|d)*e"), "(a|b)*(c|d)*e")
        self.assertEqual(formula_form("a*(b|(c*d))"), "a*(b|(c*d))")

    def test_mixed_chains(self):
        for text in ("a*b|c", "a|b*c", "a*b*c|d", "(a*b|c)", "a -o b*c|d", "a*b|c -o d", "~(a|b*c)",
                     "a*(b)|c", "(a)|(b)*(c)"):
            self.assertEqual(set_answer(text + ";;"), [-1], text)

    def test_no_formulas(self):
        for text in ("*", "|", "~", "(", ")", "()", "(a", "a)", ")a(", "a*", "*a", "a|", "|a", "a**b", "a*|b",
                     "a -o", "-o a", "a -o -o b", "a~", "a~b", "a(b)", "(a)b", "(a)(b)", "~", "~~", "~)", "~*a",
                     "~-oa", "(a*)", "(*a)", "((a)", "(a))", "a*()", "(a -o)", "a b", "(a*b", "a*b)", "~(a"):
            self.assertEqual(set_answer(text + ";;"), [-1], text)
            self.assertEqual(set_answer("a,~a;" + text + ";0-1"), [-1], text)


class Unclosed(unittest.TestCase):
    """At most 100 of (, ~, -o and the signs of chains may be open at one place.

    A formula with many atoms that is read is refused with -6 instead of -1.
    """

    def assert_read(self, formula):
        self.assertIn(set_answer(formula + ";;"), ([-3], [-6]), formula)

    def assert_not_read(self, formula):
        self.assertEqual(set_answer(formula + ";;"), [-1], formula)

    def test_brackets(self):
        self.assertEqual(set_answer("(" * 100 + "a" + ")" * 100 + ", ~a ;; 0-1"), [2])
        self.assert_not_read("(" * 101 + "a" + ")" * 101)

    def test_tildes(self):
        self.assertEqual(set_answer("~" * 100 + "a, ~a ;; 0-1"), [2])
        self.assertEqual(set_answer("~" * 99 + "a, a ;; 0-1"), [2])
        self.assert_not_read("~" * 101 + "a")

    def test_chain_signs(self):
        for sign in "*|":
            self.assert_read(sign.join(["a"] * 101))
            self.assert_not_read(sign.join(["a"] * 102))

    def test_arrows(self):
        self.assert_read("-o".join(["a"] * 101))
        self.assert_not_read("-o".join(["a"] * 102))

    def test_mixed(self):
        self.assert_read("(~" * 50 + "a" + ")" * 50)
        self.assert_not_read("(~" * 50 + "~a" + ")" * 50)
        self.assert_read("a*(" * 50 + "a" + ")" * 50)
        self.assert_not_read("a*(" * 50 + "~a" + ")" * 50)
        self.assert_not_read("a*(" * 50 + "a|a" + ")" * 50)
        self.assert_not_read("a*(" * 50 + "a-oa" + ")" * 50)
        self.assert_read("a-o(" * 50 + "a" + ")" * 50)
        self.assert_not_read("a-o(" * 50 + "(a)" + ")" * 50)
        self.assert_read("a-o" * 50 + "*".join(["a"] * 51))
        self.assert_not_read("a-o" * 50 + "*".join(["a"] * 52))

    def test_only_one_place_counts(self):
        self.assert_read("*".join(["(" * 90 + "a" + ")" * 90] * 5))
        self.assert_read("*".join(["~" * 90 + "a"] * 11))
        self.assert_not_read("*".join(["~" * 90 + "a"] * 12))

    def test_tilde_ends_with_its_part(self):
        self.assert_read("~a*" + "*".join(["a"] * 100))
        self.assert_read("~(a)*" + "*".join(["a"] * 100))
        self.assert_read("*".join(["a"] * 100 + ["a"]))
        self.assert_not_read("*".join(["a"] * 100 + ["~a"]))

    def test_chain_ends_at_an_arrow(self):
        chain = "*".join(["a"] * 100)
        self.assert_read(chain + "-o" + chain)
        self.assert_read("*".join(["a"] * 101) + "-o" + chain)
        self.assert_not_read(chain + "-o" + "*".join(["a"] * 101))

    def test_arrow_ends_with_its_brackets(self):
        arrows = "(" + "-o".join(["a"] * 99) + ")"
        self.assert_read(arrows + "*" + arrows.replace("a-o", "", 1))
        self.assert_not_read(arrows + "*" + arrows.replace("(", "(a-o", 1))
        self.assert_read("*".join(["(a-oa)"] * 50))


class FormulaBytes(unittest.TestCase):
    def test_two_thousand_bytes(self):
        for text, end in ((" " * 1999 + "a", ""), ("a", " " * 1999), ("(" + " " * 1997 + "a", ")")):
            self.assertEqual(set_answer(text + end + ",~a;;0-1"), [2])
            self.assertEqual(set_answer(text + end + " ,~a;;0-1"), [-1])
            self.assertEqual(set_answer(" " + text + end + ",~a;;0-1"), [-1])

    def test_in_the_cuts_and_last(self):
        self.assertEqual(set_answer("a,~a;" + "b".rjust(2000) + ";0-1 2-3"), [4])
        self.assertEqual(set_answer("a,~a;" + "b".rjust(2001) + ";0-1 2-3"), [-1])
        self.assertEqual(set_answer("a," + "~a".rjust(2000) + ";;0-1"), [2])
        self.assertEqual(set_answer("a," + "~a".rjust(2001) + ";;0-1"), [-1])

    def test_long_sequent_of_short_formulas(self):
        self.assertEqual(set_answer("a".rjust(1900) + "," + "~a".rjust(1900) + ";;0-1"), [2])


def pair_chain(count):
    """A formula of so many atoms, half of them turned, of depth far below 40."""
    plain = "*".join(["a"] * (count // 2))
    turned = "*".join(["~a"] * (count - count // 2))
    return "(%s)*(%s)" % (plain, turned)


class Bounds(unittest.TestCase):
    def test_sixty_atoms(self):
        self.assertEqual(set_answer(pair_chain(60) + ";;" + halves(60)), [60])
        self.assertEqual(set_answer(pair_chain(61) + ";;" + halves(60)), [-6])
        self.assertEqual(set_answer(pair_chain(62) + ";;" + halves(62)), [-6])

    def test_depth_forty(self):
        forty = "*".join(["a"] * 20 + ["~a"] * 20)
        self.assertEqual(set_answer(forty + ";;" + halves(40)), [40])
        self.assertEqual(set_answer("a*" + forty + ", ~a;;"), [-6])
        left = "(" * 39 + "a" + "".join("*a)" for place in range(39))
        self.assertEqual(set_answer(left + ";;"), [-3])
        self.assertEqual(set_answer("(" + left + "*a);;"), [-6])

    def test_depth_in_the_second_half(self):
        self.assertEqual(set_answer("a|(a*" + "*".join(["a"] * 38) + ");;"), [-3])
        self.assertEqual(set_answer("a|(a*" + "*".join(["a"] * 39) + ");;"), [-6])

    def test_brackets_and_tildes_are_no_depth(self):
        forty = "*".join(["(~~a)"] * 20 + ["((~a))"] * 20)
        self.assertEqual(set_answer(forty + ";;" + halves(40)), [40])

    def test_any_formula(self):
        self.assertEqual(set_answer("a, ~a, %s ; ; 0-1" % TOO_DEEP), [-6])
        self.assertEqual(set_answer("a, ~a ; %s ; 0-1" % TOO_DEEP), [-6])
        self.assertEqual(set_answer("a, ~a ; a, %s ; 0-1" % TOO_DEEP), [-6])


class Leaves(unittest.TestCase):
    def test_of_conclusions(self):
        sixty = pair_chain(60)
        two = sixty + "," + sixty
        links = halves(60) + " " + " ".join("%d-%d" % (leaf, leaf + 30) for leaf in range(60, 90))
        self.assertEqual(set_answer(two + ";;" + links), [120])
        self.assertEqual(set_answer(two + ",a ;;" + links), [-5])
        self.assertEqual(set_answer(two + ",a, ~a ;;" + links + " 120-121"), [-5])

    def test_of_cuts(self):
        links = " ".join("%d-%d" % (leaf, leaf + 60) for leaf in range(60))
        self.assertEqual(set_answer(";" + pair_chain(60) + ";" + links), [120])
        self.assertEqual(set_answer(";" + pair_chain(60) + ", a;" + links + " 120-121"), [-5])
        self.assertEqual(set_answer("a ;" + pair_chain(60) + ";" + links), [-5])

    def test_of_both(self):
        conclusions = ", ".join(["a*~a"] * 19)
        self.assertEqual(set_answer(conclusions + ";" + pair_chain(40) + ";" + neighbours(38)
                                    + " " + " ".join("%d-%d" % (leaf, leaf + 40) for leaf in range(38, 78))), [118])
        self.assertEqual(set_answer(conclusions + ";" + pair_chain(42) + ";" + neighbours(38)), [-5])


class Links(unittest.TestCase):
    def assert_links(self, links, answer, sequent="a*~a, a*~a"):
        self.assertEqual(set_answer(sequent + ";;" + links), [answer], links)

    def test_form(self):
        self.assert_links("0-1 2-3", 4)
        self.assert_links("0-3 1-2", 4)
        for links in ("00-1 2-3", "0-01 2-3", "0-1 02-3", "0-1 2-03", "2-3 0-1", "1-2 0-3", "1-0 2-3", "0-1 3-2",
                      "0-1  2-3", "0-1,2-3", "0 -1 2-3", "0- 1 2-3", "0-1 2-3.", "0-12-3", "0-1-2-3", "0 1 2 3",
                      "0--1 2-3", "-0-1 2-3", "0-1 2-", "0-1 -3", "0-1 -", "0-1 2", "a-b", "0-a 1-2", "+0-1 2-3",
                      "0-1\t2-3", "0-1\n2-3", "0-1 2-3\n"):
            self.assert_links(links, -1)

    def test_blanks_around(self):
        for links in ("  0-1 2-3", "0-1 2-3  ", "    0-1 2-3 ", " " * 1000 + "0-1 2-3" + " " * 1000):
            self.assert_links(links, 4)
        self.assertEqual(set_answer(";;    "), [0])

    def test_equal_numbers_are_not_rising(self):
        self.assert_links("0-0 1-2", -1)
        self.assert_links("0-1 0-1", -1)
        self.assert_links("0-1 0-3", -1)

    def test_leaf_twice(self):
        self.assert_links("0-1 1-2", -3)
        self.assert_links("0-3 2-3", -3)
        self.assert_links("0-1 2-3 3-4", -3)
        self.assert_links("0-1 1-2 2-3", -3)
        self.assert_links("0-2 1-2", -3, "a, a, ~a")
        self.assert_links("0-1 1-2", -3, "a, ~a, a")

    def test_leaf_left_out(self):
        self.assert_links("", -3)
        self.assert_links("   ", -3)
        self.assert_links("0-1", -3)
        self.assert_links("2-3", -3)
        self.assert_links("0-1", -3, "a, ~a, a")

    def test_number_too_great(self):
        self.assert_links("0-1 2-4", -3)
        self.assert_links("0-1 2-3 4-5", -3)
        self.assert_links("4-5", -3)
        self.assert_links("0-1 2-3 100-101", -3)
        self.assertEqual(set_answer(";; 0-1"), [-3])
        self.assert_links("0-1 2-" + "9" * 3000, -3)
        self.assert_links("0-1 " + "9" * 1500 + "-1" + "0" * 1500, -3)
        self.assert_links("0-1 1" + "0" * 1500 + "-" + "9" * 1500, -1)
        self.assert_links("0-1 2-0" + "9" * 3000, -1)

    def test_atoms_that_do_not_fit(self):
        self.assert_links("0-2 1-3", -3)
        self.assert_links("0-1 2-3", -3, "a, ~b, b, ~a")
        self.assert_links("0-3 1-2", 4, "a, ~b, b, ~a")
        self.assert_links("0-1", -3, "a, a")
        self.assert_links("0-1", -3, "~a, ~a")
        self.assert_links("0-1", -3, "a, b")
        self.assert_links("0-1", -3, "a, ~aa")
        self.assert_links("0-1", 2, "~a, a")

    def test_of_cuts(self):
        self.assertEqual(set_answer("; a ; 0-1"), [2])
        self.assertEqual(set_answer("; a|b ; 0-2 1-3"), [4])
        self.assertEqual(set_answer("; a|b ; 0-1 2-3"), [-3])
        self.assertEqual(set_answer("a, ~a ; a ; 0-3 1-2"), [4])
        self.assertEqual(set_answer("a, ~a ; ~a ; 0-2 1-3"), [4])
        self.assertEqual(set_answer("a, ~a ; a ; 0-2 1-3"), [-3])
        self.assertEqual(set_answer("; a, ~b ; 0-1 2-3"), [4])
        self.assertEqual(set_answer("; a, ~b ; 0-3 1-2"), [-3])


class Order(unittest.TestCase):
    def test_minus_one_first(self):
        many = ",".join([TOO_DEEP] * 3)
        self.assertEqual(set_answer(many + ";; 1-0"), [-1])
        self.assertEqual(set_answer(many + "; A ; 0-1"), [-1])
        self.assertEqual(set_answer(many + ", ; ; 0-1"), [-1])
        self.assertEqual(set_answer(many + "; ; 0-1 ;"), [-1])
        self.assertEqual(set_answer(",".join(["a"] * 20 + [TOO_DEEP]) + "; ; "), [-1])
        self.assertEqual(set_answer(",".join([pair_chain(60)] * 3) + "; ; 0-1 0-1"), [-1])

    def test_minus_six_before_minus_five(self):
        self.assertEqual(set_answer(",".join([pair_chain(60)] * 3 + [TOO_DEEP]) + "; ; 0-1"), [-6])

    def test_minus_five_before_minus_three(self):
        self.assertEqual(set_answer(",".join([pair_chain(60)] * 3) + "; ; 0-1"), [-5])

    def test_minus_three_last(self):
        self.assertEqual(set_answer(",".join([pair_chain(60)] * 2) + "; ; 0-1"), [-3])


class Held(unittest.TestCase):
    def test_a_taken_text_is_held(self):
        told = ask(("set", "b*c, ~b|~c ; ; 0-2 1-3"), "form")
        self.assertEqual(bytes(told[1][1:]), b"b*c, ~b|~c ;  ; 0-2 1-3")

    def test_a_refused_text_changes_nothing(self):
        refused = {-1: "a, ~a ; ; 1-0", -6: TOO_DEEP + ";;", -5: ",".join([pair_chain(60)] * 3) + ";;",
                   -3: "a, ~a, a, ~a;;0-1"}
        for number, text in refused.items():
            calls = ["form", "size", "test", "bad", "draw"]
            told = ask_of("b|c, ~b|~c ; d ; 0-2 1-3 4-5", *(calls + [("set", text)] + calls))
            self.assertEqual(told[5], [number])
            self.assertEqual(told[:5], told[6:])
            told = ask(*(calls + [("set", text)] + calls))
            self.assertEqual(told[5], [number])
            self.assertEqual(told[:5], told[6:])


if __name__ == "__main__":
    unittest.main()
