package derive_test

import (
	"fmt"
	"slices"
	"strconv"
	"testing"

	"proofprograms/api"
	"proofprograms/derive"
	"proofprograms/kernel"
	"proofprograms/machine"
	"proofprograms/proof"
	"proofprograms/samples"
	"proofprograms/terms"
	"proofprograms/value"
)

// numbers returns terms of the type Nat in the context (fun(nat, nat), list, nat, nat): with and without variables and steps.
func numbers() []api.Term {
	length := fold(nat, zero, lam(nat, lam(list, lam(nat, succ(v(0))))), v(2))
	return []api.Term{
		zero, num(3), v(0), succ(v(1)), app(v(3), v(0)), length, id(v(0)), succ(id(id(num(2)))),
		app(value.Plus(), v(0), num(2)), app(value.Times(), num(3), num(4)), rec(nat, v(1), lam(nat, lam(nat, app(v(5), v(0)))), v(0)), node(api.TermFst, samples.Pair(v(0), none)),
	}
}

// context returns the context of numbers.
func context() []api.Type { return []api.Type{fun(nat, nat), list, nat, nat} }

// slower returns a term that matches t after steps.
func slower(t api.Term) api.Term {
	return node(api.TermSnd, samples.Pair(zero, rec(nat, id(t), lam(nat, lam(nat, zero)), zero)))
}

// P12.1: Sym, Trans, Cong, Injective and Absurd, with hypotheses that are the equations, or match them after steps.
func TestEquations(t *testing.T) {
	step := lam(nat, succ(v(0)))
	for i, s := range numbers() {
		for j, u := range numbers() {
			w := numbers()[(i+j)%len(numbers())]
			what := fmt.Sprint(i, " ", j)
			for _, as := range []func(t api.Term) api.Term{func(t api.Term) api.Term { return t }, slower} {
				g := in(context(), eq(as(s), as(u)), eq(as(u), as(w)), eq(as(succ(s)), succ(as(u))), eq(as(zero), as(succ(s))), falsum())
				g.accepts(t, what, eq(u, s), "Sym", s, u, hyp(4))
				g.accepts(t, what, eq(s, w), "Trans", s, u, w, hyp(4), hyp(3))
				g.accepts(t, what, eq(app(v(3), s), app(v(3), u)), "Cong", v(3), s, u, hyp(4))
				g.accepts(t, what, eq(succ(s), succ(u)), "Cong", step, s, u, hyp(4))
				g.accepts(t, what, eq(s, u), "Injective", s, u, hyp(2))
				g.accepts(t, what, falsum(), "Absurd", s, hyp(1))
				// The terms that are asked for may have steps where the hypotheses have none, too.
				g.accepts(t, what, eq(u, s), "Sym", as(s), slower(u), hyp(4))
				g.accepts(t, what, eq(s, w), "Trans", slower(s), as(u), slower(w), hyp(4), hyp(3))
				g.accepts(t, what, eq(s, u), "Injective", slower(s), as(u), hyp(2))
				g.accepts(t, what, falsum(), "Absurd", slower(s), hyp(1))
			}
		}
	}
}

// P12.1: with lemmas, and below variables and hypotheses that the proofs bind.
func TestEquationsInside(t *testing.T) {
	lemma0 := all(nat, eq(app(value.Plus(), zero, v(0)), v(0)))
	g := place{[]api.Formula{lemma0, eq(num(2), num(2))}, api.Sequent{Types: []api.Type{nat, list}, Hyps: []api.Formula{eq(v(1), zero)}}}
	sum := app(value.Plus(), zero, v(1))
	inst := at(api.ProofAllE, v(1), lemma(0))
	g.accepts(t, "lemma", eq(v(1), sum), "Sym", sum, v(1), inst)
	g.accepts(t, "lemma and hypothesis", eq(sum, zero), "Trans", sum, v(1), zero, inst, hyp(0))
	g.accepts(t, "lemma without content", eq(num(2), num(2)), "Sym", num(2), num(2), lemma(1))

	// All(Nat; Imp(Eq(Var 0, Var 2), Eq(Var 2, Var 0))): the result stands below binders.
	p, err := derive.Sym(v(0), v(2), hyp(0))
	must(t, "error", err, api.OK)
	whole := under(api.ProofAllI, nat, impI(eq(v(0), v(2)), p))
	must(t, "below", kernel.Accepts(g.lemmas, g.s, whole, all(nat, imp(eq(v(0), v(2)), eq(v(2), v(0))))), api.OK)
}

// falsities returns formulas in the context (nat, list, nat): with and without content, with quantifiers over every kind of type.
func falsities() []api.Formula {
	a, b := eq(v(0), num(7)), eq(v(2), app(value.Plus(), v(0), num(2)))
	l := []api.Formula{
		a, b, falsum(), eq(zero, zero), and(a, b), imp(a, b), imp(imp(a, falsum()), and(b, imp(b, a))), not(not(a)), and(and(a, b), and(ex(nat, a), b)),
		imp(ex(nat, eq(v(0), v(1))), b), imp(all(nat, imp(eq(v(0), v(1)), falsum())), ex(nat, eq(v(0), v(3)))), and(imp(exU(list, eq(v(1), zero)), a), all(nat, a)),
		ex(nat, imp(eq(v(0), v(1)), eq(v(1), v(0)))), allU(nat, ex(nat, eq(v(0), v(1)))), exU(nat, ex(nat, eq(v(0), v(1)))), ex(nat, allU(list, exU(nat, eq(v(0), v(2))))),
	}
	for _, s := range []api.Type{nat, list, samples.Unit, fun(nat, list), both(nat, fun(list, nat)), fun(both(nat, nat), fun(fun(nat, nat), samples.Unit)), samples.Wide(16, nat)} {
		for _, kind := range samples.Quantifiers() {
			l = append(l, quant(kind, s, eq(v(1), v(3))), quant(kind, s, imp(eq(v(1), v(3)), quant(kind, nat, ex(s, eq(v(1), v(3)))))))
		}
	}
	l = append(l, ex(both(nat, fun(nat, nat)), eq(node(api.TermFst, v(0)), app(node(api.TermSnd, v(0)), v(1)))), ex(list, eq(fold(nat, v(1), lam(nat, lam(list, lam(nat, v(2)))), v(0)), zero)))
	return l
}

// P12.2: ExFalso of formulas of all kinds, from hypotheses that are False, or match it after steps. What is proved uses nothing.
func TestExFalso(t *testing.T) {
	for i, f := range falsities() {
		for j, no := range []api.Formula{falsum(), eq(slower(zero), id(num(1))), eq(zero, app(value.Plus(), zero, num(1)))} {
			g := in([]api.Type{nat, list, nat}, eq(v(0), v(2)), no, ex(nat, eq(v(0), v(1))))
			what := fmt.Sprint(i, " ", j)
			if kernel.Sequent(nil, api.Sequent{Types: g.s.Types, Hyps: []api.Formula{f}}) != api.OK {
				t.Fatalf("%s is not typed", what)
			}
			p := g.accepts(t, what, f, "ExFalso", f, hyp(1))
			got, _ := kernel.Infer(nil, g.s, p)
			must(t, what+": uses", len(got.Uses), 0)
		}
	}
	g := place{[]api.Formula{falsum()}, api.Sequent{}}
	g.accepts(t, "lemma", ex(nat, eq(v(0), num(5))), "ExFalso", ex(nat, eq(v(0), num(5))), lemma(0))
}

// P12.2: Left, Right and Cases of formulas with and without content.
func TestDisjunctions(t *testing.T) {
	l := falsities()
	for i, a := range l {
		b, c := l[(i*7+3)%len(l)], l[(i*5+8)%len(l)]
		what := strconv.Itoa(i)
		g := in([]api.Type{nat, list, nat}, a, b, or(a, b), imp(a, c), imp(b, c), eq(v(0), zero))
		g.accepts(t, what, or(a, b), "Left", a, b, hyp(5))
		g.accepts(t, what, or(a, b), "Right", a, b, hyp(4))
		g.accepts(t, what, c, "Cases", a, b, c, hyp(3), hyp(2), hyp(1))
		left, _ := derive.Left(a, b, hyp(5))
		g.accepts(t, what+" of Left", c, "Cases", a, b, c, left, hyp(2), hyp(1))
		right, _ := derive.Right(a, b, hyp(4))
		g.accepts(t, what+" of Right", c, "Cases", a, b, c, right, hyp(2), hyp(1))
		g.accepts(t, what+" to Or", or(b, a), "Cases", a, b, or(b, a), hyp(3), impI(a, proved(derive.Right(b, a, hyp(0)))), impI(b, proved(derive.Left(b, a, hyp(0)))))
	}
}

// proved returns the result of a call without an error.
func proved(p api.Proof, err api.Errno) api.Proof {
	if err != api.OK {
		panic(err)
	}
	return p
}

// P12.2, P12.4: what was handed in may use variables; what is returned uses these, and no others.
func TestUses(t *testing.T) {
	some := func(i int) api.Formula { return ex(nat, eq(v(0), v(i+1))) }
	shown := func(i int) api.Proof { return having(api.ProofExI, some(i), v(i), refl(v(i))) }
	g := in([]api.Type{nat, nat, nat, nat}, or(some(0), some(1)), eq(v(0), v(1)), falsum())
	uses := func(p api.Proof) []int {
		got, err := kernel.Infer(nil, g.s, p)
		must(t, "error", err, api.OK)
		return got.Uses
	}
	must(t, "ExFalso", len(uses(g.accepts(t, "", some(3), "ExFalso", some(3), hyp(0)))), 0)
	must(t, "Left", uses(g.accepts(t, "", or(some(1), some(3)), "Left", some(1), some(3), shown(1))), []int{1})
	must(t, "Right", uses(g.accepts(t, "", or(some(1), some(3)), "Right", some(1), some(3), shown(3))), []int{3})
	c := some(3)
	must(t, "Cases", uses(g.accepts(t, "", c, "Cases", some(0), some(1), c, hyp(2), impI(some(0), shown(3)), impI(some(1), shown(3)))), []int{3})
	disjunction := or(some(1), some(2))
	must(t, "Cases", uses(g.accepts(t, "", c, "Cases", some(1), some(2), c, proved(derive.Left(some(1), some(2), shown(1))), impI(some(1), shown(3)), impI(some(2), shown(3)))), []int{1, 3})
	must(t, "Cases without content", len(uses(g.accepts(t, "", eq(v(0), v(0)), "Cases", some(1), some(2), eq(v(0), v(0)), proved(derive.Left(some(1), some(2), shown(1))), impI(some(1), refl(v(0))), impI(some(2), refl(v(0)))))), 0)
	must(t, "Cases to Or", uses(g.accepts(t, "", disjunction, "Cases", some(0), some(1), disjunction, hyp(2), impI(some(0), proved(derive.Left(some(1), some(2), shown(1)))), impI(some(1), proved(derive.Right(some(1), some(2), shown(2)))))), []int{1, 2})
	f := ex(nat, eq(v(0), v(2)))
	start, step := shown(0), under(api.ProofAllI, nat, shown(1))
	must(t, "Numbers", uses(g.accepts(t, "", all(nat, f), "Numbers", f, start, step)), []int{0})
	must(t, "Lists", uses(g.accepts(t, "", all(list, f), "Lists", f, start, under(api.ProofAllI, nat, under(api.ProofAllI, list, shown(2))))), []int{0})
	own := ex(nat, eq(v(0), v(1)))
	must(t, "Numbers of what it binds", len(uses(g.accepts(t, "", all(nat, own), "Numbers", own, having(api.ProofExI, ex(nat, eq(v(0), zero)), zero, refl(zero)), under(api.ProofAllI, nat, having(api.ProofExI, ex(nat, eq(v(0), succ(v(1)))), succ(v(0)), refl(succ(v(0)))))))), 0)
}

// P12.3: Numbers and Lists, from hypotheses that are what is asked for.
func TestAll(t *testing.T) {
	length := fold(nat, zero, lam(nat, lam(list, lam(nat, succ(v(0))))), v(0))
	for i, f := range []api.Formula{
		eq(v(0), v(0)), eq(v(1), num(2)), imp(eq(v(0), v(1)), eq(v(1), v(0))), ex(nat, eq(v(0), v(1))), all(nat, ex(nat, eq(v(2), app(value.Plus(), v(0), v(1))))),
		and(exU(list, eq(v(1), v(2))), allU(nat, eq(v(0), v(1)))), or(eq(v(0), zero), not(eq(v(0), zero))), eq(app(value.Pred(), succ(v(0))), id(v(0))), imp(not(eq(v(1), v(0))), ex(list, eq(v(1), v(3)))),
	} {
		g := in([]api.Type{list, nat, nat}, put(f, zero), next(f), falsum())
		g.accepts(t, strconv.Itoa(i), all(nat, f), "Numbers", f, hyp(2), hyp(1))
	}
	for i, f := range []api.Formula{
		eq(length, length), eq(length, v(1)), ex(nat, eq(v(0), num(1))), ex(list, eq(v(2), rec(nat, zero, lam(nat, lam(nat, zero)), v(3)))), imp(eq(length, v(1)), eq(v(2), length)),
		all(list, ex(nat, eq(v(0), fold(nat, v(3), lam(nat, lam(list, lam(nat, v(2)))), v(2))))), allU(nat, exU(nat, imp(eq(v(0), v(1)), eq(v(3), v(4))))),
	} {
		g := in([]api.Type{nat, nat, nat}, put(f, none), longer(f), falsum())
		g.accepts(t, strconv.Itoa(i), all(list, f), "Lists", f, hyp(2), hyp(1))
	}
	// The head and the tail are told apart.
	head := fold(nat, zero, lam(nat, lam(list, lam(nat, v(2)))), v(0))
	tail := fold(nat, zero, lam(nat, lam(list, lam(nat, fold(nat, zero, lam(nat, lam(list, lam(nat, succ(v(0))))), v(1))))), v(0))
	sure := eq(app(value.Plus(), head, tail), app(value.Plus(), head, tail))
	again := func(l api.Term) api.Proof { return refl(put(sure, l).Terms[0]) }
	g := in([]api.Type{nat})
	g.accepts(t, "head and tail", all(list, sure), "Lists", sure, again(none), under(api.ProofAllI, nat, under(api.ProofAllI, list, again(cons(v(1), v(0))))))
	first := ex(nat, eq(v(0), fold(nat, num(5), lam(nat, lam(list, lam(nat, v(2)))), v(1))))
	start := having(api.ProofExI, put(first, none), num(5), refl(num(5)))
	g.accepts(t, "head", all(list, first), "Lists", first, start, under(api.ProofAllI, nat, under(api.ProofAllI, list, having(api.ProofExI, put(first, cons(v(1), v(0))), v(1), refl(v(1))))))
}

// P12.3: Equality is closed, accepted in the empty sequent and in others, and for the formula alone.
func TestEquality(t *testing.T) {
	p := derive.Equality()
	same := eq(v(1), v(0))
	f := all(nat, all(nat, or(same, not(same))))
	got, err := kernel.Infer(nil, api.Sequent{}, p)
	must(t, "error", []any{err, len(got.Uses)}, []any{api.OK, 0})
	must(t, "accepted", kernel.Accepts(nil, api.Sequent{}, p, f), api.OK)
	must(t, "accepted for something else", kernel.Accepts(nil, api.Sequent{}, p, all(nat, all(nat, or(eq(v(0), v(1)), not(same))))), api.ErrMatch)
	variables, hyps, lemmas := used(proof.Uses(p)), used(proof.Hyps(p)), used(proof.Lemmas(p))
	must(t, "uses", []int{len(variables), len(hyps), len(lemmas)}, []int{0, 0, 0})
	more := place{[]api.Formula{falsum()}, api.Sequent{Types: slices.Repeat([]api.Type{nat}, 8), Hyps: slices.Repeat([]api.Formula{eq(v(0), v(7))}, 8)}}
	must(t, "below", kernel.Accepts(more.lemmas, more.s, p, f), api.OK)
	must(t, "again", proof.Same(p, derive.Equality()), true)
	at00 := at(api.ProofAllE, num(4), at(api.ProofAllE, v(0), p))
	must(t, "at terms", kernel.Accepts(more.lemmas, more.s, at00, or(eq(v(0), num(4)), not(eq(v(0), num(4))))), api.OK)
}

// What exists by Equality is computed by a function that is quick enough for small numbers.
func TestEqualityWitness(t *testing.T) {
	p := derive.Equality().Args[0].Args[0]
	must(t, "kind", p.Kind, api.ProofExI)
	f := lam(nat, lam(nat, p.Terms[0]))
	s, err := terms.TypeOf(nil, f)
	must(t, "type", []any{s, err}, []any{fun(nat, fun(nat, nat)), api.OK})
	for i := range 20 {
		for j := range 20 {
			got, _, err := machine.Call(f, []api.Value{samples.Num(i), samples.Num(j)}, 5000)
			must(t, fmt.Sprint(i, " ", j), []any{got.Num == 0, err}, []any{i == j, api.OK})
		}
	}
}

// What does not fulfil the conditions is not accepted for what it is not.
func TestOtherThings(t *testing.T) {
	g := in([]api.Type{nat, nat, nat}, eq(v(0), v(1)), eq(v(1), v(2)), eq(succ(v(0)), v(2)), falsum(), or(eq(v(0), zero), eq(v(1), zero)))
	refused := func(what string, f api.Formula, p api.Proof, err api.Errno) {
		t.Helper()
		must(t, what+": error", err, api.OK)
		if kernel.Accepts(g.lemmas, g.s, p, f) == api.OK {
			t.Errorf("%s is accepted", what)
		}
	}
	p, err := derive.Sym(v(1), v(0), hyp(4))
	refused("Sym of the other equation", eq(v(0), v(1)), p, err)
	p, err = derive.Sym(v(0), v(2), hyp(4))
	refused("Sym of something else", eq(v(2), v(0)), p, err)
	p, err = derive.Trans(v(0), v(1), v(2), hyp(4), hyp(4))
	refused("Trans of the same equation", eq(v(0), v(2)), p, err)
	p, err = derive.Trans(v(0), v(1), v(2), hyp(3), hyp(4))
	refused("Trans the other way", eq(v(0), v(2)), p, err)
	p, err = derive.Cong(v(0), v(0), v(1), hyp(4))
	refused("Cong of a number", eq(app(v(0), v(0)), app(v(0), v(1))), p, err)
	p, err = derive.Injective(v(0), v(2), hyp(2))
	refused("Injective without Succ", eq(v(0), v(2)), p, err)
	p, err = derive.Absurd(v(0), hyp(2))
	refused("Absurd of numbers that are not 0", falsum(), p, err)
	p, err = derive.ExFalso(eq(v(0), v(2)), hyp(4))
	refused("ExFalso of what is not False", eq(v(0), v(2)), p, err)
	p, err = derive.ExFalso(eq(v(0), v(3)), hyp(1))
	refused("ExFalso of what is not typed", eq(v(0), v(3)), p, err)
	p, err = derive.Left(eq(v(0), zero), falsum(), hyp(4))
	refused("Left of something else", or(eq(v(0), zero), falsum()), p, err)
	p, err = derive.Right(falsum(), eq(v(0), zero), hyp(4))
	refused("Right of something else", or(falsum(), eq(v(0), zero)), p, err)
	p, err = derive.Cases(eq(v(0), zero), eq(v(1), zero), eq(v(0), v(2)), hyp(0), impI(eq(v(0), zero), hyp(5)), impI(eq(v(1), zero), hyp(5)))
	refused("Cases of something else", eq(v(0), v(2)), p, err)
	p, err = derive.Cases(eq(v(0), zero), eq(v(1), zero), eq(v(0), v(1)), hyp(4), impI(eq(v(0), zero), hyp(5)), impI(eq(v(1), zero), hyp(5)))
	refused("Cases of no disjunction", eq(v(0), v(1)), p, err)
	p, err = derive.Numbers(eq(v(0), zero), refl(zero), under(api.ProofAllI, nat, refl(v(0))))
	refused("Numbers", all(nat, eq(v(0), zero)), p, err)
	p, err = derive.Lists(eq(v(1), v(1)), refl(v(0)), under(api.ProofAllI, list, under(api.ProofAllI, nat, refl(v(2)))))
	refused("Lists with the types the other way", all(list, eq(v(1), v(1))), p, err)
}
