package derive_test

import (
	"fmt"
	"reflect"
	"slices"
	"testing"

	"proofprograms/api"
	"proofprograms/derive"
	"proofprograms/formula"
	"proofprograms/kernel"
	"proofprograms/proof"
	"proofprograms/samples"
	"proofprograms/subst"
)

// Exact signatures.
var (
	_ func(s, t api.Term, p api.Proof) (api.Proof, api.Errno)             = derive.Sym
	_ func(s, t, u api.Term, p, q api.Proof) (api.Proof, api.Errno)       = derive.Trans
	_ func(g, s, t api.Term, p api.Proof) (api.Proof, api.Errno)          = derive.Cong
	_ func(s, t api.Term, p api.Proof) (api.Proof, api.Errno)             = derive.Injective
	_ func(t api.Term, p api.Proof) (api.Proof, api.Errno)                = derive.Absurd
	_ func(f api.Formula, p api.Proof) (api.Proof, api.Errno)             = derive.ExFalso
	_ func(a, b api.Formula, p api.Proof) (api.Proof, api.Errno)          = derive.Left
	_ func(a, b api.Formula, p api.Proof) (api.Proof, api.Errno)          = derive.Right
	_ func(a, b, c api.Formula, p, q, r api.Proof) (api.Proof, api.Errno) = derive.Cases
	_ func(f api.Formula, p, q api.Proof) (api.Proof, api.Errno)          = derive.Numbers
	_ func() api.Proof                                                    = derive.Equality
	_ func(f api.Formula, p, q api.Proof) (api.Proof, api.Errno)          = derive.Lists
)

var (
	nat, list, fun, both         = samples.Nat, samples.List, samples.Fun, samples.Both
	zero, none                   = samples.Zero, samples.None
	v, lam, app, succ, cons      = samples.Var, samples.Lam, samples.App, samples.Succ, samples.Cons
	num, nums, rec, fold, node   = samples.Number, samples.Numbers, samples.Rec, samples.Fold, samples.Node
	eq, and, imp, falsum         = samples.Eq, samples.And, samples.Imp, samples.Falsum
	all, ex, quant               = samples.All, samples.Ex, samples.Quant
	rule, hyp, lemma, andI, impI = samples.Rule, samples.Hyp, samples.Lemma, samples.AndI, samples.ImpI
	under, at, having, refl      = samples.Under, samples.At, samples.For, samples.Refl
	rewrite                      = samples.Subst
)

// allU and exU return formulas with uniform quantifiers.
func allU(s api.Type, f api.Formula) api.Formula { return quant(api.FormAllU, s, f) }
func exU(s api.Type, f api.Formula) api.Formula  { return quant(api.FormExU, s, f) }

// not returns a negation.
func not(f api.Formula) api.Formula { return imp(f, falsum()) }

// id returns a number that is not normal: three nodes and one step more.
func id(t api.Term) api.Term { return app(lam(nat, v(0)), t) }

// lift returns a formula below n more variables.
func lift(f api.Formula, from, n int) api.Formula {
	f, err := formula.Lift(f, from, n)
	if err != api.OK {
		panic(err)
	}
	return f
}

// put returns a formula with a term in place of its variable 0.
func put(f api.Formula, t api.Term) api.Formula {
	f, err := formula.Put(f, 0, t)
	if err != api.OK {
		panic(err)
	}
	return f
}

// or returns a disjunction, as chapter 7 writes it.
func or(a, b api.Formula) api.Formula {
	none := eq(v(0), zero)
	return ex(nat, and(imp(none, lift(a, 0, 1)), imp(not(none), lift(b, 0, 1))))
}

// next returns f for the next number, below one number.
func next(f api.Formula) api.Formula { return all(nat, put(lift(f, 1, 1), succ(v(0)))) }

// longer returns f for the list with one element more, below that element and the list.
func longer(f api.Formula) api.Formula {
	return all(nat, all(list, put(lift(f, 1, 2), cons(v(1), v(0)))))
}

// must fails the test if what a call returned is not what it should be.
func must(t *testing.T, what string, got, want any) {
	t.Helper()
	if !reflect.DeepEqual(got, want) {
		t.Errorf("%s: got %.400s, want %.400s", what, fmt.Sprintf("%+v", got), fmt.Sprintf("%+v", want))
	}
}

// A function is one of the layer: its name, the kinds of what it is given (term, formula, one with a variable behind the context, proof), and a call of it.
type function struct {
	name, kinds string
	call        func(l []any) (api.Proof, api.Errno)
}

// functions returns all functions that are given something.
func functions() []function {
	t := func(x any) api.Term { return x.(api.Term) }
	f := func(x any) api.Formula { return x.(api.Formula) }
	p := func(x any) api.Proof { return x.(api.Proof) }
	return []function{
		{"Sym", "ttp", func(l []any) (api.Proof, api.Errno) { return derive.Sym(t(l[0]), t(l[1]), p(l[2])) }},
		{"Trans", "tttpp", func(l []any) (api.Proof, api.Errno) { return derive.Trans(t(l[0]), t(l[1]), t(l[2]), p(l[3]), p(l[4])) }},
		{"Cong", "tttp", func(l []any) (api.Proof, api.Errno) { return derive.Cong(t(l[0]), t(l[1]), t(l[2]), p(l[3])) }},
		{"Injective", "ttp", func(l []any) (api.Proof, api.Errno) { return derive.Injective(t(l[0]), t(l[1]), p(l[2])) }},
		{"Absurd", "tp", func(l []any) (api.Proof, api.Errno) { return derive.Absurd(t(l[0]), p(l[1])) }},
		{"ExFalso", "fp", func(l []any) (api.Proof, api.Errno) { return derive.ExFalso(f(l[0]), p(l[1])) }},
		{"Left", "ffp", func(l []any) (api.Proof, api.Errno) { return derive.Left(f(l[0]), f(l[1]), p(l[2])) }},
		{"Right", "ffp", func(l []any) (api.Proof, api.Errno) { return derive.Right(f(l[0]), f(l[1]), p(l[2])) }},
		{"Cases", "fffppp", func(l []any) (api.Proof, api.Errno) {
			return derive.Cases(f(l[0]), f(l[1]), f(l[2]), p(l[3]), p(l[4]), p(l[5]))
		}},
		{"Numbers", "bpp", func(l []any) (api.Proof, api.Errno) { return derive.Numbers(f(l[0]), p(l[1]), p(l[2])) }},
		{"Lists", "bpp", func(l []any) (api.Proof, api.Errno) { return derive.Lists(f(l[0]), p(l[1]), p(l[2])) }},
	}
}

// named returns the function of a name.
func named(name string) function {
	for _, x := range functions() {
		if x.name == name {
			return x
		}
	}
	panic(name)
}

// A place is what proofs stand in.
type place struct {
	lemmas []api.Formula
	s      api.Sequent
}

// in returns a place without lemmas.
func in(context []api.Type, hyps ...api.Formula) place {
	return place{nil, api.Sequent{Types: context, Hyps: hyps}}
}

// accepts fails the test if a call has an error, or if the kernel does not accept what it returned for a formula, or if that uses more than it may.
func (g place) accepts(t *testing.T, what string, f api.Formula, name string, l ...any) api.Proof {
	t.Helper()
	x := named(name)
	what += ": " + name
	p, err := x.call(l)
	if err == api.OK {
		err = kernel.Accepts(g.lemmas, g.s, p, f)
	}
	if err != api.OK {
		t.Errorf("%s: %d", what, err)
		return p
	}
	x.little(t, what, p, l)
	g.unused(t, what, p, l)
	return p
}

// unused fails the test if the kernel says that a proof uses a variable, and says that of no proof that was handed in.
func (g place) unused(t *testing.T, what string, p api.Proof, l []any) int {
	t.Helper()
	got, err := kernel.Infer(g.lemmas, g.s, p)
	must(t, what+": Infer", err, api.OK)
	var uses []int
	for _, a := range l {
		if q, ok := a.(api.Proof); ok {
			part, err := kernel.Infer(g.lemmas, g.s, q)
			must(t, what+": Infer of a part", err, api.OK)
			uses = append(uses, part.Uses...)
		}
	}
	within(t, what+": uses", got.Uses, uses)
	return len(got.Uses)
}

// little fails the test if a proof uses any lemma, hypothesis or variable that what it was made of does not use.
func (x function) little(t *testing.T, what string, p api.Proof, l []any) {
	t.Helper()
	var variables, hyps, lemmas []int
	for i, a := range l {
		switch a := a.(type) {
		case api.Term:
			uses, _ := subst.Uses(a)
			variables = append(variables, uses...)
		case api.Formula:
			if x.kinds[i] == 'b' {
				a = all(nat, a)
			}
			uses, _ := formula.Uses(a)
			variables = append(variables, uses...)
		case api.Proof:
			variables, hyps, lemmas = slices.Concat(variables, used(proof.Uses(a))), slices.Concat(hyps, used(proof.Hyps(a))), slices.Concat(lemmas, used(proof.Lemmas(a)))
		}
	}
	must(t, what+": Check", proof.Check(p), api.OK)
	within(t, what+": variables", used(proof.Uses(p)), variables)
	within(t, what+": hypotheses", used(proof.Hyps(p)), hyps)
	within(t, what+": lemmas", used(proof.Lemmas(p)), lemmas)
}

// used returns what a call without an error returned.
func used(l []int, _ api.Errno) []int { return l }

// within fails the test if a number is not among others.
func within(t *testing.T, what string, l, others []int) {
	t.Helper()
	for _, i := range l {
		if !slices.Contains(others, i) {
			t.Errorf("%s: %d is none of %d", what, i, others)
		}
	}
}
