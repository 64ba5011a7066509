package proof_test

import (
	"fmt"
	"reflect"
	"slices"
	"strconv"
	"strings"
	"testing"

	"proofprograms/api"
	"proofprograms/proof"
	"proofprograms/samples"
)

// Exact signatures.
var (
	_       func(p api.Proof) api.Errno                                   = proof.Check
	_       func(p api.Proof) (int, api.Errno)                            = proof.Size
	_       func(a, b api.Proof) bool                                     = proof.Same
	_       func(p api.Proof, from, by int) (api.Proof, api.Errno)        = proof.Lift
	_       func(p api.Proof, at int, s api.Term) (api.Proof, api.Errno)  = proof.Put
	_       func(p api.Proof, from, by int) (api.Proof, api.Errno)        = proof.LiftHyps
	_       func(p api.Proof, at int, q api.Proof) (api.Proof, api.Errno) = proof.PutHyp
	_, _, _ func(p api.Proof) ([]int, api.Errno)                          = proof.Uses, proof.Hyps, proof.Lemmas
)

var (
	nat, list, unit, fun, both, wide = samples.Nat, samples.List, samples.Unit, samples.Fun, samples.Both, samples.Wide
	zero, none, only                 = samples.Zero, samples.None, samples.Only
	v, lam, app, succ, pair          = samples.Var, samples.Lam, samples.App, samples.Succ, samples.Pair
	num, above, fullTerm, rec, fold  = samples.Number, samples.Above, samples.Full, samples.Rec, samples.Fold

	eq, and, imp, falsum = samples.Eq, samples.And, samples.Imp, samples.Falsum
	all, ex, quant, alls = samples.All, samples.Ex, samples.Quant, samples.Alls

	rule, with, hyp, lemma         = samples.Rule, samples.With, samples.Hyp, samples.Lemma
	andI, impI, under, at          = samples.AndI, samples.ImpI, samples.Under, samples.At
	having, refl, rewrite, allIs   = samples.For, samples.Refl, samples.Subst, samples.AllIs
	firstArgs, lastArgs, fullProof = samples.FirstArgs, samples.LastArgs, samples.FullProof
)

// The greatest Index that may be lifted, and the greatest number.
const (
	farthest = 1 << 29
	greatest = 1<<63 - 1
)

// must fails the test if what a call returned is not what it should be (reflect tells nil from empty slices apart: nil is the zero value).
func must(t *testing.T, what string, got, want any) {
	t.Helper()
	if !reflect.DeepEqual(got, want) {
		t.Errorf("%s: got %.400s, want %.400s", what, fmt.Sprintf("%+v", got), fmt.Sprintf("%+v", want))
	}
}

// mustProof fails the test if a call did not return this proof and this error, or anything else with an error.
func mustProof(t *testing.T, what string, got api.Proof, err api.Errno, want api.Proof, wantErr api.Errno) {
	t.Helper()
	// Copies make nil of empty slices.
	if err != wantErr || !reflect.DeepEqual(samples.DeepProof(got), samples.DeepProof(want)) {
		t.Errorf("%s: got %.300s, %d, want %.300s, %d", what, fmt.Sprint(got), err, fmt.Sprint(want), wantErr)
	}
	if err != api.OK {
		must(t, what+": result with an error", got, api.Proof{})
	}
}

// errorOf returns what Check says of a tree, and fails if it is an error and any other call does not name it, or returns anything else with it.
func errorOf(t *testing.T, what string, x api.Proof) api.Errno {
	t.Helper()
	err := proof.Check(x)
	size, e := proof.Size(x)
	must(t, what+": error of Size", e, err)
	if err == api.OK {
		return err
	}
	free, e1 := proof.Uses(x)
	hyps, e2 := proof.Hyps(x)
	lemmas, e3 := proof.Lemmas(x)
	a, e4 := proof.Lift(x, -1, -1)
	b, e5 := proof.Put(x, -1, api.Term{})
	c, e6 := proof.LiftHyps(x, -1, -1)
	d, e7 := proof.PutHyp(x, -1, api.Proof{})
	f, e8 := proof.PutHyp(hyp(farthest+1), 0, x)
	must(t, what+": errors", []api.Errno{e1, e2, e3, e4, e5, e6, e7, e8}, slices.Repeat([]api.Errno{err}, 8))
	must(t, what+": results", []any{size, free, hyps, lemmas}, []any{0, []int(nil), []int(nil), []int(nil)})
	must(t, what+": proofs", []api.Proof{a, b, c, d, f}, make([]api.Proof, 5))
	return err
}

// P10.1: Check and Size of proofs.
func TestValid(t *testing.T) {
	for _, q := range []struct {
		name string
		p    api.Proof
		size int
	}{
		{"hypothesis", hyp(0), 1},
		{"hypothesis with a large Index", hyp(greatest), 1},
		{"lemma", lemma(0), 1},
		{"lemma with a large Index", lemma(greatest), 1},
		{"AndI", andI(hyp(0), lemma(1)), 3},
		{"AndL", rule(api.ProofAndL, hyp(0)), 2},
		{"AndR", rule(api.ProofAndR, hyp(0)), 2},
		{"ImpI", impI(falsum(), hyp(0)), 6},
		{"ImpE", rule(api.ProofImpE, hyp(0), hyp(1)), 3},
		{"AllI", under(api.ProofAllI, fun(nat, both(list, unit)), hyp(0)), 2},
		{"AllE", at(api.ProofAllE, succ(v(3)), hyp(0)), 4},
		{"ExI", having(api.ProofExI, ex(nat, eq(v(0), zero)), num(0), hyp(0)), 7},
		{"ExI of a formula that is no Ex", having(api.ProofExI, falsum(), num(2), hyp(0)), 9},
		{"ExE", rule(api.ProofExE, hyp(0), hyp(1)), 3},
		{"AllUI", under(api.ProofAllUI, unit, hyp(0)), 2},
		{"AllUE", at(api.ProofAllUE, only, hyp(0)), 3},
		{"ExUI", having(api.ProofExUI, quant(api.FormExU, nat, falsum()), num(1), hyp(0)), 9},
		{"ExUE", rule(api.ProofExUE, hyp(0), hyp(1)), 3},
		{"Ind", having(api.ProofInd, eq(v(0), v(0)), num(1), hyp(0), refl(zero)), 9},
		{"ListInd", having(api.ProofListInd, eq(zero, v(1)), none, refl(zero), hyp(1)), 8},
		{"Refl", refl(lam(list, app(v(0), v(1)))), 5},
		{"Subst", rewrite(eq(v(0), v(0)), hyp(0), refl(zero)), 7},
		{"Choice", rule(api.ProofChoice, hyp(0)), 2},
		{"nodes of types do not count", under(api.ProofAllI, wide(31, nat), refl(lam(wide(31, unit), v(0)))), 4},
		{"empty slices", api.Proof{Kind: api.ProofHyp, Type: api.Type{Args: []api.Type{}}, Terms: []api.Term{}, Forms: []api.Formula{}, Args: []api.Proof{}}, 1},
		{"empty slices of Refl", api.Proof{Kind: api.ProofRefl, Type: api.Type{Args: []api.Type{}}, Terms: []api.Term{zero}, Forms: []api.Formula{}, Args: []api.Proof{}}, 2},
		{"spare capacity", api.Proof{Kind: api.ProofRefl, Terms: append(make([]api.Term, 0, 9), zero), Forms: make([]api.Formula, 0, 9), Args: make([]api.Proof, 0, 9)}, 2},
		{"as many nodes as may be", allIs(api.MaxProof-1, hyp(0)), api.MaxProof},
		{"as many in first Args", rule(api.ProofAndL, firstArgs(api.MaxProof/2-1, hyp(0))), api.MaxProof},
		{"as many in last Args", rule(api.ProofAndR, lastArgs(api.MaxProof/2-1, hyp(0))), api.MaxProof},
		{"as many on all sides", rule(api.ProofAndL, fullProof(13, hyp(0))), api.MaxProof},
		{"as many in terms", rule(api.ProofAndL, andI(fullProof(1, refl(num(4095))), fullProof(1, refl(num(4091))))), api.MaxProof},
		{"as many in formulas", impI(eq(num(4093), zero), impI(eq(num(4093), zero), impI(eq(num(4093), zero), impI(eq(num(4088), zero), hyp(0))))), api.MaxProof},
		{"as many nodes as may be in a term", refl(fullTerm(11)), 4096},
		{"as many nodes as may be in a formula", rewrite(alls(4092, falsum()), hyp(0), hyp(0)), 4099},
		{"as many nodes as may be in both", having(api.ProofExI, eq(num(4093), zero), num(4095), hyp(0)), 8194},
	} {
		must(t, q.name, errorOf(t, q.name, q.p), api.OK)
		size, _ := proof.Size(q.p)
		must(t, q.name+": Size", size, q.size)
	}
}

// P10.1: a node that is not as it should be, at any place of a tree of any size, is the first error.
func TestForm(t *testing.T) {
	largeTerm, largeFormula := above(4096, zero), eq(num(4094), zero)
	for i, bad := range samples.WrongProofs() {
		name := strconv.Itoa(i) + " at the root"
		must(t, name, errorOf(t, name, bad), api.ErrForm)
		for name, x := range map[string]api.Proof{
			"first":                     andI(bad, hyp(0)),
			"second":                    rule(api.ProofImpE, hyp(0), bad),
			"first of two":              rule(api.ProofExE, bad, hyp(0)),
			"last":                      having(api.ProofListInd, falsum(), zero, hyp(0), bad),
			"below binders":             impI(falsum(), under(api.ProofAllI, nat, rewrite(falsum(), hyp(0), bad))),
			"behind a term too large":   andI(refl(largeTerm), bad),
			"before a term too large":   andI(bad, refl(largeTerm)),
			"below a formula too large": impI(largeFormula, bad),
			"before a formula":          andI(bad, impI(largeFormula, hyp(0))),
			"below one of both":         having(api.ProofInd, largeFormula, largeTerm, hyp(0), bad),
		} {
			must(t, strconv.Itoa(i)+" "+name, proof.Check(x), api.ErrForm)
		}
	}
}

// P10.1: a wrong node below, before and behind as many nodes as may not be.
func TestFormOfLarge(t *testing.T) {
	many := fullProof(14, hyp(0))
	l := []api.Proof{{}, hyp(-1), lemma(-1), hyp(-1 << 63), rule(api.ProofAndI, hyp(0)), impI(eq(zero, v(-1)), hyp(0)), refl(v(-1)), refl(lam(api.Type{}, zero)), under(api.ProofAllI, wide(32, nat), hyp(0)), {Kind: 21}}
	for i, bad := range l {
		for name, x := range map[string]api.Proof{
			"behind many":         andI(many, bad),
			"before many":         andI(bad, many),
			"below AllI":          allIs(1<<16, bad),
			"below in first Args": firstArgs(1<<16, bad),
			"below in last Args":  lastArgs(1<<16, bad),
		} {
			must(t, strconv.Itoa(i)+" "+name, proof.Check(x), api.ErrForm)
		}
	}
}

// P10.1: ErrForm of a term or formula comes before ErrSize of another one, of the same node or of any other, and of itself.
func TestFormBeforeSize(t *testing.T) {
	largeTerm, largeFormula := above(4096, zero), eq(num(4094), zero)
	badTerm, badFormula := above(5000, v(-1)), imp(largeFormula, eq(zero, v(-1)))
	for i, x := range []api.Proof{
		having(api.ProofExI, badFormula, largeTerm, hyp(0)),
		having(api.ProofExUI, largeFormula, badTerm, hyp(0)),
		having(api.ProofInd, badFormula, badTerm, hyp(0), hyp(0)),
		having(api.ProofListInd, largeFormula, badTerm, hyp(0), hyp(0)),
		andI(refl(largeTerm), refl(badTerm)),
		andI(refl(badTerm), refl(largeTerm)),
		impI(largeFormula, impI(badFormula, hyp(0))),
		impI(badFormula, impI(largeFormula, hyp(0))),
		at(api.ProofAllE, largeTerm, impI(badFormula, hyp(0))),
		at(api.ProofAllUE, badTerm, impI(largeFormula, hyp(0))),
		rewrite(largeFormula, refl(badTerm), hyp(0)),
		rewrite(largeFormula, hyp(0), refl(badTerm)),
		rewrite(imp(eq(largeTerm, zero), eq(zero, v(-1))), hyp(0), hyp(0)),
		allIs(1<<15, at(api.ProofAllE, badTerm, hyp(0))),
	} {
		must(t, strconv.Itoa(i), errorOf(t, strconv.Itoa(i), x), api.ErrForm)
	}
}

// P10.1: too many nodes, or a term or formula of too many, all of them as they should be.
func TestTooLarge(t *testing.T) {
	for name, x := range samples.LargeProofs() {
		must(t, name, errorOf(t, name, x), api.ErrSize)
		if strings.HasPrefix(name, "one more") {
			must(t, name+": nodes", nodes(x), api.MaxProof+1)
		}
	}
	for name, f := range samples.LargeFormulas() {
		for kind, p := range samples.Simplest() {
			if len(p.Forms) > 0 {
				p.Forms = []api.Formula{f}
				must(t, name+" of kind "+strconv.Itoa(kind), proof.Check(andI(hyp(0), p)), api.ErrSize)
			}
		}
	}
	for kind, p := range samples.Simplest() {
		for i, s := range []api.Term{above(4096, zero), fullTerm(12), pair(num(2047), num(2047))} {
			if len(p.Terms) > 0 {
				p.Terms = []api.Term{s}
				what := strconv.Itoa(i) + " of kind " + strconv.Itoa(kind)
				must(t, what, errorOf(t, what, andI(p, hyp(0))), api.ErrSize)
			}
		}
	}
}

// nodes returns the number of nodes of any tree.
func nodes(p api.Proof) int {
	count := 1
	for _, s := range p.Terms {
		count += nodesOfTerm(s)
	}
	for _, f := range p.Forms {
		count += nodesOfFormula(f)
	}
	for _, a := range p.Args {
		count += nodes(a)
	}
	return count
}

func nodesOfFormula(f api.Formula) int {
	count := 1
	for _, s := range f.Terms {
		count += nodesOfTerm(s)
	}
	for _, a := range f.Args {
		count += nodesOfFormula(a)
	}
	return count
}

func nodesOfTerm(s api.Term) int {
	count := 1
	for _, a := range s.Args {
		count += nodesOfTerm(a)
	}
	return count
}

// P10.1: Size of many proofs.
func TestSizes(t *testing.T) {
	for i, p := range many() {
		size, err := proof.Size(p)
		must(t, strconv.Itoa(i), []any{size, err}, []any{nodes(p), api.OK})
	}
}

// many returns small proofs of each kind, and larger ones of all kinds, with free variables, hypotheses and lemmas below all kinds that bind some.
func many() []api.Proof {
	var l []api.Proof
	for i := range 4 {
		leaf := func() api.Proof { return andI(hyp(i), refl(app(v(i), v(1), lam(nat, v(i))))) }
		form := func() api.Formula { return imp(eq(v(i), v(0)), all(list, eq(v(i+1), v(1)))) }
		one := samples.Proofs(fun(nat, nat), func() api.Term { return v(i) }, form, leaf)[1:]
		l = append(l, one...)
		for _, p := range one {
			l = append(l, samples.Proofs(list, func() api.Term { return succ(v(1)) }, form, func() api.Proof { return p })[api.ProofAndI:]...)
		}
	}
	c := samples.Choices{State: 11}
	for range 300 {
		l = append(l, c.Tree(5))
	}
	return l
}

// P10.1: Same, of proofs and of other trees.
func TestSame(t *testing.T) {
	other := func(p api.Proof) api.Proof {
		p.Kind, p.Index = -77, -3
		return p
	}
	terms := func(l ...api.Term) api.Proof { return other(api.Proof{Terms: l}) }
	forms := func(l ...api.Formula) api.Proof { return other(api.Proof{Forms: l}) }
	args := func(l ...api.Proof) api.Proof { return other(api.Proof{Args: l}) }
	typed := func(s api.Type) api.Proof { return other(api.Proof{Type: s}) }
	for i, q := range []struct {
		a, b api.Proof
		want bool
	}{
		{api.Proof{}, api.Proof{}, true},
		{api.Proof{}, hyp(0), false},
		{api.Proof{}, api.Proof{Kind: -1}, false},
		{api.Proof{Kind: greatest}, api.Proof{Kind: greatest, Type: api.Type{Args: []api.Type{}}, Terms: []api.Term{}, Forms: []api.Formula{}, Args: []api.Proof{}}, true},
		{hyp(0), hyp(0), true},
		{hyp(0), hyp(1), false},
		{hyp(-1), hyp(-1), true},
		{hyp(-1), hyp(greatest), false},
		{hyp(0), lemma(0), false},
		{andI(hyp(0), hyp(1)), andI(hyp(0), hyp(1)), true},
		{andI(hyp(0), hyp(1)), andI(hyp(1), hyp(0)), false},
		{andI(hyp(0), hyp(1)), andI(hyp(0), hyp(0)), false},
		{andI(hyp(0), hyp(1)), rule(api.ProofImpE, hyp(0), hyp(1)), false},
		{andI(andI(hyp(0), hyp(0)), hyp(0)), andI(hyp(0), andI(hyp(0), hyp(0))), false},
		{impI(falsum(), hyp(0)), impI(falsum(), hyp(0)), true},
		{impI(falsum(), hyp(0)), impI(eq(zero, zero), hyp(0)), false},
		{impI(falsum(), hyp(0)), impI(falsum(), hyp(1)), false},
		{under(api.ProofAllI, nat, hyp(0)), under(api.ProofAllI, list, hyp(0)), false},
		{under(api.ProofAllI, nat, hyp(0)), under(api.ProofAllUI, nat, hyp(0)), false},
		{refl(app(lam(nat, v(0)), zero)), refl(zero), false}, // not up to normal forms
		{refl(lam(nat, v(0))), refl(lam(list, v(0))), false},
		{typed(nat), typed(nat), true},
		{typed(nat), typed(list), false},
		{typed(nat), typed(api.Type{}), false},
		{typed(fun(nat, api.Type{Kind: -4})), typed(fun(nat, api.Type{Kind: -4})), true},
		{typed(fun(nat, api.Type{Kind: -4})), typed(fun(nat, api.Type{Kind: -5})), false},
		{terms(zero), terms(zero), true},
		{terms(zero), terms(), false},
		{terms(zero, none), terms(zero, zero), false},
		{terms(zero, none), terms(zero), false},
		{terms(v(-3), api.Term{}), terms(v(-3), api.Term{}), true},
		{forms(falsum()), forms(falsum()), true},
		{forms(falsum()), forms(), false},
		{forms(falsum(), api.Formula{}), forms(falsum(), api.Formula{}), true},
		{forms(falsum(), api.Formula{}), forms(falsum(), falsum()), false},
		{forms(falsum(), falsum()), forms(falsum()), false},
		{args(hyp(0)), args(hyp(0)), true},
		{args(hyp(0)), args(), false},
		{args(hyp(0), api.Proof{}), args(hyp(0)), false},
		{args(hyp(0), hyp(1), hyp(2)), args(hyp(0), hyp(1), hyp(3)), false},
		{args(terms(zero), forms(falsum())), args(terms(zero), forms(falsum())), true},
		{args(terms(zero), forms(falsum())), args(terms(zero), forms(eq(zero, zero))), false},
		{allIs(1<<16, hyp(0)), allIs(1<<16, hyp(0)), true},
		{allIs(1<<16, hyp(0)), allIs(1<<16, hyp(1)), false},
		{firstArgs(1<<16, hyp(0)), firstArgs(1<<16-1, hyp(0)), false},
		{lastArgs(1<<16, hyp(0)), lastArgs(1<<16, hyp(0)), true},
		{fullProof(14, hyp(0)), fullProof(14, hyp(0)), true},
		{refl(above(1<<16, zero)), refl(above(1<<16, zero)), true},
	} {
		must(t, strconv.Itoa(i), proof.Same(q.a, q.b), q.want)
		must(t, strconv.Itoa(i)+" turned", proof.Same(q.b, q.a), q.want)
	}
}

// P10.1: Same tells many proofs from each other, and their copies from nothing; same proofs have the same sizes.
func TestSameOfMany(t *testing.T) {
	l := many()
	texts := make([]string, len(l))
	for i, p := range l {
		texts[i] = fmt.Sprint(samples.DeepProof(p))
	}
	for i, a := range l {
		copied := samples.DeepProof(a)
		for j, b := range l {
			same := proof.Same(copied, b)
			must(t, strconv.Itoa(i)+" and "+strconv.Itoa(j), same, texts[i] == texts[j])
			if same {
				m, _ := proof.Size(copied)
				n, _ := proof.Size(b)
				must(t, "sizes of "+strconv.Itoa(i)+" and "+strconv.Itoa(j), m, n)
			}
		}
	}
}

// P10.1: each field of each kind, changed alone, makes another tree of it.
func TestSameOfWrong(t *testing.T) {
	right := samples.Simplest()
	for i, a := range samples.WrongProofs() {
		if i%5 == 0 {
			must(t, strconv.Itoa(i), proof.Same(a, a), true)
		}
		if a.Kind > 0 && a.Kind < len(right) {
			must(t, strconv.Itoa(i)+" and the right one", proof.Same(a, right[a.Kind]), false)
		}
	}
}
