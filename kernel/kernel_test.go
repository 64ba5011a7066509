package kernel_test

import (
	"fmt"
	"reflect"
	"slices"
	"strconv"
	"testing"

	"proofprograms/api"
	"proofprograms/kernel"
	"proofprograms/samples"
)

// Exact signatures.
var (
	_ func(lemmas []api.Formula, s api.Sequent) api.Errno                             = kernel.Sequent
	_ func(lemmas []api.Formula, s api.Sequent, p api.Proof) (api.Proved, api.Errno)  = kernel.Infer
	_ func(lemmas []api.Formula, s api.Sequent, p api.Proof, f api.Formula) api.Errno = kernel.Accepts
)

var (
	nat, list, unit, fun, both, wide = samples.Nat, samples.List, samples.Unit, samples.Fun, samples.Both, samples.Wide
	zero, none, only                 = samples.Zero, samples.None, samples.Only
	v, lam, app, succ, cons, pair    = samples.Var, samples.Lam, samples.App, samples.Succ, samples.Cons, samples.Pair
	num, nums, above, rec            = samples.Number, samples.Numbers, samples.Above, samples.Rec

	eq, and, imp, falsum    = samples.Eq, samples.And, samples.Imp, samples.Falsum
	all, ex, quant, alls    = samples.All, samples.Ex, samples.Quant, samples.Alls
	ands                    = samples.Ands
	rule, hyp, lemma, andI  = samples.Rule, samples.Hyp, samples.Lemma, samples.AndI
	impI, under, at, having = samples.ImpI, samples.Under, samples.At, samples.For
	refl, rewrite, allIs    = samples.Refl, samples.Subst, samples.AllIs
)

// The greatest Index that may be lifted, and the greatest number.
const (
	farthest = 1 << 29
	greatest = 1<<63 - 1
)

// allU and exU return formulas with uniform quantifiers.
func allU(s api.Type, f api.Formula) api.Formula { return quant(api.FormAllU, s, f) }
func exU(s api.Type, f api.Formula) api.Formula  { return quant(api.FormExU, s, f) }

// id returns a number that is not normal: three nodes and one step more.
func id(t api.Term) api.Term { return app(lam(nat, v(0)), t) }

// must fails the test if what a call returned is not what it should be.
func must(t *testing.T, what string, got, want any) {
	t.Helper()
	if !reflect.DeepEqual(got, want) {
		t.Errorf("%s: got %.400s, want %.400s", what, fmt.Sprintf("%+v", got), fmt.Sprintf("%+v", want))
	}
}

// A known is what a proof stands in, and proves.
type known struct {
	lemmas []api.Formula
	s      api.Sequent
}

// in returns a sequent without lemmas.
func in(context []api.Type, hyps ...api.Formula) known {
	return known{s: api.Sequent{Types: context, Hyps: hyps}}
}

// infer returns what Infer says of a proof.
func infer(k known, p api.Proof) (api.Proved, api.Errno) { return kernel.Infer(k.lemmas, k.s, p) }

// proves fails the test if a proof does not prove this formula with these uses, ascending.
func (k known) proves(t *testing.T, what string, p api.Proof, f api.Formula, uses ...int) {
	t.Helper()
	got, err := infer(k, p)
	// Copies make nil of empty slices.
	if err != api.OK || !reflect.DeepEqual(samples.DeepFormula(got.Formula), samples.DeepFormula(f)) || !slices.Equal(got.Uses, uses) {
		t.Errorf("%s: got %.300s, %d, want %.300s", what, fmt.Sprint(got), err, fmt.Sprint(f, uses))
	}
	must(t, what+": Accepts", kernel.Accepts(k.lemmas, k.s, p, f), api.OK)
}

// refuses fails the test if a proof has another error, or none.
func (k known) refuses(t *testing.T, what string, p api.Proof, want api.Errno) {
	t.Helper()
	got, err := infer(k, p)
	must(t, what, []any{got, err}, []any{api.Proved{}, want})
	if want != api.OK {
		must(t, what+": Accepts", kernel.Accepts(k.lemmas, k.s, p, api.Formula{}), want)
	}
}

// reaches fails the test if a proof has any of the errors that come before that of a part, which is Lemma of the greatest int.
func (k known) reaches(t *testing.T, what string, p api.Proof) {
	t.Helper()
	k.refuses(t, what, p, api.ErrLemma)
}

// last is a part whose error shows that it was reached.
var last = lemma(greatest)

// large returns a closed formula with so many nodes.
func large(nodes int) api.Formula { return eq(zero, num(nodes-3)) }

// nats returns a context of numbers.
func nats(n int) []api.Type { return slices.Repeat([]api.Type{nat}, n) }

// times returns a formula again and again.
func times(n int, f api.Formula) []api.Formula { return slices.Repeat([]api.Formula{f}, n) }

// P11.1: Sequent, with its errors in their order.
func TestSequent(t *testing.T) {
	open, ill, wrong, tall := eq(v(0), zero), eq(zero, none), api.Formula{}, large(4097)
	for i, q := range []struct {
		lemmas []api.Formula
		types  []api.Type
		hyps   []api.Formula
		want   api.Errno
	}{
		{nil, nil, nil, api.OK},
		{[]api.Formula{}, []api.Type{}, []api.Formula{}, api.OK},
		{times(32, falsum()), nats(16), times(16, eq(v(0), v(15))), api.OK},
		{[]api.Formula{large(4096), alls(4092, falsum())}, []api.Type{wide(31, list)}, []api.Formula{alls(4092, eq(v(0), v(4091)))}, api.OK},
		{nil, []api.Type{list, nat}, []api.Formula{open, all(list, eq(v(1), zero))}, api.OK},
		{times(33, wrong), slices.Repeat([]api.Type{{}}, 17), times(17, wrong), api.ErrLimit},
		{times(33, falsum()), nil, nil, api.ErrLimit},
		{times(1<<16, falsum()), nil, nil, api.ErrLimit},
		{append(times(31, falsum()), wrong), make([]api.Type, 17), nil, api.ErrForm},
		{[]api.Formula{ill, wrong}, make([]api.Type, 17), nil, api.ErrType},
		{[]api.Formula{falsum(), open, wrong}, nats(1), nil, api.ErrScope}, // lemmas have no context
		{[]api.Formula{all(nat, eq(v(1), zero))}, nats(3), nil, api.ErrScope},
		{[]api.Formula{tall, wrong}, make([]api.Type, 17), nil, api.ErrSize},
		{[]api.Formula{wrong, tall}, make([]api.Type, 17), nil, api.ErrForm},
		{[]api.Formula{eq(zero, app(zero, zero))}, nil, nil, api.ErrType},
		{[]api.Formula{eq(zero, app(lam(wide(31, nat), lam(nat, zero)), zero))}, nil, nil, api.ErrSize},
		{[]api.Formula{alls(1<<16, falsum())}, nil, nil, api.ErrSize},
		{[]api.Formula{alls(1<<16, wrong)}, nil, nil, api.ErrForm},
		{nil, make([]api.Type, 17), times(17, wrong), api.ErrLimit},
		{nil, nats(17), nil, api.ErrLimit},
		{nil, []api.Type{nat, {}}, times(17, wrong), api.ErrForm},
		{nil, []api.Type{wide(32, nat), {}}, times(17, wrong), api.ErrSize},
		{nil, nats(1), times(17, wrong), api.ErrLimit},
		{nil, nats(1), times(17, open), api.ErrLimit},
		{nil, nats(1), append(times(15, open), wrong), api.ErrForm},
		{nil, nats(1), []api.Formula{open, ill, wrong}, api.ErrType},
		{nil, nats(1), []api.Formula{open, wrong, ill}, api.ErrForm},
		{nil, nats(1), []api.Formula{eq(v(1), zero), wrong}, api.ErrScope},
		{nil, []api.Type{list, nat}, []api.Formula{eq(v(1), zero), wrong}, api.ErrType},
		{nil, nats(1), []api.Formula{tall, wrong}, api.ErrSize},
		{nil, nats(16), []api.Formula{eq(v(greatest), zero)}, api.ErrScope},
		{nil, nats(16), []api.Formula{all(nat, eq(zero, v(17)))}, api.ErrScope},
		{nil, nats(16), []api.Formula{all(nat, eq(zero, v(16)))}, api.OK},
	} {
		what, s := strconv.Itoa(i), api.Sequent{Types: q.types, Hyps: q.hyps}
		must(t, what, kernel.Sequent(q.lemmas, s), q.want)
		if q.want != api.OK { // it comes before all that may be wrong in a proof
			known{q.lemmas, s}.refuses(t, what+": Infer", api.Proof{}, q.want)
		}
	}
}

// P11.1: formulas of a wrong form are found wherever they are.
func TestWrongFormulas(t *testing.T) {
	for i, f := range samples.WrongFormulas() {
		for j, f := range []api.Formula{f, imp(falsum(), all(nat, f)), alls(5000, and(f, falsum()))} {
			what := fmt.Sprint(i, " ", j)
			must(t, what+": lemma", kernel.Sequent([]api.Formula{falsum(), f}, api.Sequent{}), api.ErrForm)
			must(t, what+": hypothesis", kernel.Sequent(nil, api.Sequent{Hyps: []api.Formula{falsum(), f}}), api.ErrForm)
			must(t, what+": what is to be proved", kernel.Accepts(nil, api.Sequent{}, refl(zero), f), api.ErrForm)
			in(nil).refuses(t, what+": premise", andI(last, impI(f, last)), api.ErrForm)
		}
	}
	for name, f := range samples.LargeFormulas() {
		must(t, name+": lemma", kernel.Sequent([]api.Formula{falsum(), f}, api.Sequent{}), api.ErrSize)
		must(t, name+": hypothesis", kernel.Sequent(nil, api.Sequent{Hyps: []api.Formula{falsum(), f}}), api.ErrSize)
		must(t, name+": what is to be proved", kernel.Accepts(nil, api.Sequent{}, refl(zero), f), api.ErrSize)
	}
}

// P11.2: trees that are no proofs, at any depth, come before all that is wrong in those that are.
func TestWrongProofs(t *testing.T) {
	for i, p := range samples.WrongProofs() {
		in(nil).refuses(t, strconv.Itoa(i), p, api.ErrForm)
		if i%5 == 0 {
			in(nil).refuses(t, strconv.Itoa(i)+", below", andI(last, allIs(5000, impI(falsum(), andI(last, p)))), api.ErrForm)
		}
	}
	for name, p := range samples.LargeProofs() {
		in(nil).refuses(t, name, p, api.ErrSize)
	}
	in(nats(1), falsum()).refuses(t, "as many nodes as may be", rule(api.ProofAndL, samples.FullProof(13, hyp(1))), api.ErrHyp)
	in(nats(1), falsum()).refuses(t, "one more", rule(api.ProofAndL, rule(api.ProofAndL, samples.FullProof(13, hyp(1)))), api.ErrSize)
}

// Nil slices and empty ones are one.
func TestEmpty(t *testing.T) {
	p := api.Proof{Kind: api.ProofLemma, Terms: []api.Term{}, Forms: []api.Formula{}, Args: []api.Proof{}, Type: api.Type{Args: []api.Type{}}}
	f := eq(api.Term{Kind: api.TermZero, Args: []api.Term{}}, zero)
	f.Args = []api.Formula{}
	k := known{[]api.Formula{f}, api.Sequent{Types: []api.Type{}, Hyps: []api.Formula{}}}
	k.proves(t, "empty slices", p, eq(zero, zero))
	k.proves(t, "nil", lemma(0), eq(zero, zero))
	got, _ := kernel.Infer(k.lemmas, k.s, p)
	must(t, "uses", len(got.Uses), 0)
}

// P11.3: Accepts, with its errors in their order.
func TestAccepts(t *testing.T) {
	a := eq(v(0), num(1))
	k := in(nats(1), a, and(a, ex(nat, eq(v(0), v(1)))))
	slow, slower := over(333), id(over(333))
	for i, q := range []struct {
		p    api.Proof
		f    api.Formula
		want api.Errno
	}{
		{hyp(1), a, api.OK},
		{hyp(1), eq(id(v(0)), num(1)), api.OK},
		{hyp(1), eq(v(0), app(samples.Sub(), num(3), num(2))), api.OK},
		{hyp(0), and(eq(v(0), id(num(1))), ex(nat, eq(id(v(0)), v(1)))), api.OK},
		{refl(id(v(0))), eq(v(0), v(0)), api.OK},
		{refl(slow), eq(slow, num(333)), api.OK}, // exactly api.MaxSteps steps
		{refl(slower), eq(slower, slower), api.OK},
		{refl(slower), eq(num(333), slower), api.ErrSteps},
		{refl(num(333)), eq(slower, num(333)), api.ErrSteps},
		{hyp(1), eq(v(0), num(2)), api.ErrMatch},
		{hyp(1), eq(num(1), v(0)), api.ErrMatch}, // matching is no symmetry of equations
		{hyp(0), a, api.ErrMatch},
		{hyp(0), and(a, ex(list, eq(zero, v(1)))), api.ErrMatch},
		{hyp(0), imp(a, ex(nat, eq(v(0), v(1)))), api.ErrMatch},
		{hyp(0), and(a, exU(nat, eq(v(0), v(1)))), api.ErrMatch},
		// That of Infer, that of formula.Typed, and that of formula.Match.
		{api.Proof{}, api.Formula{}, api.ErrForm},
		{last, api.Formula{}, api.ErrLemma},
		{hyp(2), eq(v(5), zero), api.ErrHyp},
		{hyp(1), api.Formula{}, api.ErrForm},
		{hyp(1), large(4097), api.ErrSize},
		{hyp(1), eq(v(1), slower), api.ErrScope},
		{hyp(1), eq(slower, none), api.ErrType},
		{hyp(1), all(nat, eq(v(2), slower)), api.ErrScope},
		{hyp(1), eq(v(greatest), zero), api.ErrScope},
		{refl(slower), eq(zero, slow), api.ErrSteps},       // left sides first
		{refl(slower), eq(swelling(), zero), api.ErrSteps}, // what was proved before what is asked for
		{refl(swelling()), eq(slower, zero), api.ErrSize},
		{refl(slow), eq(zero, slower), api.ErrMatch},
	} {
		must(t, strconv.Itoa(i), kernel.Accepts(k.lemmas, k.s, q.p, q.f), q.want)
	}
	must(t, "sequent", kernel.Accepts(times(33, a), k.s, api.Proof{}, api.Formula{}), api.ErrLimit)
}

// over returns the term of a number that takes 3*n + 1 steps to be that number.
func over(n int) api.Term { return rec(nat, zero, lam(nat, lam(nat, succ(v(0)))), num(n)) }
