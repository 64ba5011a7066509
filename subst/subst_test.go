package subst_test

import (
	"reflect"
	"slices"
	"strconv"
	"strings"
	"testing"

	"proofprograms/api"
	"proofprograms/samples"
	"proofprograms/subst"
	"proofprograms/terms"
	"proofprograms/types"
)

// The calls have exactly these signatures.
var (
	_ func(t api.Term, from, by int) (api.Term, api.Errno)       = subst.Lift
	_ func(t api.Term, at int) (api.Term, api.Errno)             = subst.Lower
	_ func(t api.Term, at int, s api.Term) (api.Term, api.Errno) = subst.Put
	_ func(t api.Term) ([]int, api.Errno)                        = subst.Uses
	_ func(t api.Term) (bool, api.Errno)                         = subst.Closed
)

// What the tests are made of.
var (
	nat, list, unit  = samples.Nat, samples.List, samples.Unit
	zero, none, only = samples.Zero, samples.None, samples.Only
	both, fun        = samples.Both, samples.Fun

	node, v, lam, app = samples.Node, samples.Var, samples.Lam, samples.App
	succ, cons, pair  = samples.Succ, samples.Cons, samples.Pair
	rec, fold         = samples.Rec, samples.Fold
	above, full       = samples.Above, samples.Full
	small, deep       = samples.Small, samples.Deep
)

// The greatest Index that may be lifted, and the greatest number.
const (
	farthest = 1 << 29
	greatest = 1<<63 - 1
)

// lams returns a tree below n functions.
func lams(n int, t api.Term) api.Term {
	for range n {
		t = lam(nat, t)
	}
	return t
}

// must fails the test if what a call returned is not what it should be (reflect tells nil from empty slices apart: nil is the zero value).
func must(t *testing.T, what string, got, want any) {
	t.Helper()
	if !reflect.DeepEqual(got, want) {
		t.Errorf("%s: got %+v, want %+v", what, got, want)
	}
}

// mustTerm fails the test if a call did not return this term and this error.
func mustTerm(t *testing.T, what string, got api.Term, err api.Errno, want api.Term, wantErr api.Errno) {
	t.Helper()
	if err != wantErr || !terms.Same(got, want) {
		t.Errorf("%s: got %.300s, %d, want %.300s, %d", what, text(got), err, text(want), wantErr)
	}
	if err != api.OK {
		must(t, what+": result with an error", got, api.Term{})
	}
}

// many returns terms of all kinds, with variables below up to four functions.
func many() []api.Term {
	l := small(3)
	for n := range 4 {
		for i := range n + 3 {
			l = append(l,
				lams(n, v(i)),
				lams(n, app(v(i), lam(list, app(v(0), v(1), v(i))), v(2))),
				pair(lams(n, v(i)), v(i)),
				rec(nat, v(i), lams(n, v(i+1)), v(1)),
				fold(fun(nat, nat), lams(n, v(2)), v(i), cons(v(1), none)),
			)
		}
	}
	return l
}

// P3.1: Lift.
func TestLift(t *testing.T) {
	for i, q := range []struct {
		t        api.Term
		from, by int
		want     api.Term
	}{
		{v(0), 0, 1, v(1)},
		{v(0), 1, 1, v(0)},
		{v(1), 1, 3, v(4)},
		{v(5), 2, 0, v(5)},
		{zero, 0, 7, zero},
		{only, 0, 7, only},
		{succ(v(0)), 0, 2, succ(v(2))},
		{lam(list, v(0)), 0, 2, lam(list, v(0))},
		{lam(list, v(1)), 0, 2, lam(list, v(3))},
		{lam(list, v(1)), 1, 2, lam(list, v(1))},
		{lam(list, v(2)), 1, 2, lam(list, v(4))},
		{lam(list, lam(unit, app(v(0), v(1), v(2), v(3), v(4)))), 1, 5, lam(list, lam(unit, app(v(0), v(1), v(2), v(8), v(9))))},
		{app(lam(nat, v(1)), v(1)), 1, 1, app(lam(nat, v(1)), v(2))}, // behind a function its variable is gone
		{app(v(0), v(1)), 1, 1, app(v(0), v(2))},
		{rec(nat, v(0), v(1), v(2)), 1, 1, rec(nat, v(0), v(2), v(3))},
		{fold(both(nat, list), v(2), v(1), v(0)), 1, 1, fold(both(nat, list), v(3), v(2), v(0))},
		{pair(v(1), node(api.TermFst, v(1))), 1, 1, pair(v(2), node(api.TermFst, v(2)))},
		{cons(v(0), node(api.TermSnd, v(0))), 0, 1, cons(v(1), node(api.TermSnd, v(1)))},
		{v(4096), 4096, 4096, v(8192)},
		{v(4095), 4096, 4096, v(4095)},
		{v(farthest), 0, 4096, v(farthest + 4096)},
		{v(farthest), 4096, 0, v(farthest)},
		{lams(4095, v(4095)), 0, 4096, lams(4095, v(8191))},
		{lams(4095, v(4094)), 0, 4096, lams(4095, v(4094))},
		{above(4095, v(0)), 0, 1, above(4095, v(1))},
	} {
		got, err := subst.Lift(q.t, q.from, q.by)
		mustTerm(t, strconv.Itoa(i), got, err, q.want, api.OK)
	}
}

// P3.1: the errors of Lift, in their order.
func TestLiftErrors(t *testing.T) {
	bad, large := node(0), above(4096, v(farthest+1))
	for i, q := range []struct {
		t        api.Term
		from, by int
		want     api.Errno
	}{
		{bad, -1, -1, api.ErrForm},
		{pair(v(farthest+1), v(-1)), 0, 0, api.ErrForm},
		{large, -1, -1, api.ErrSize},
		{v(0), -1, 0, api.ErrRange},
		{v(0), 0, -1, api.ErrRange},
		{v(0), 4097, 0, api.ErrRange},
		{v(0), 0, 4097, api.ErrRange},
		{v(0), greatest, 0, api.ErrRange},
		{v(0), 0, greatest, api.ErrRange},
		{v(0), -greatest - 1, 0, api.ErrRange},
		{v(0), 0, -greatest - 1, api.ErrRange},
		{zero, 0, 4097, api.ErrRange},
		{v(farthest + 1), 0, 0, api.ErrRange},
		{v(greatest), 0, 1, api.ErrRange},
		{app(v(0), lam(nat, rec(nat, zero, zero, v(farthest+1)))), 4096, 0, api.ErrRange},
		{pair(v(farthest+1), v(0)), 1, 1, api.ErrRange},
	} {
		got, err := subst.Lift(q.t, q.from, q.by)
		mustTerm(t, strconv.Itoa(i), got, err, api.Term{}, q.want)
	}
}

// P3.1: Uses and Closed.
func TestUses(t *testing.T) {
	for i, q := range []struct {
		t    api.Term
		want []int
	}{
		{v(3), []int{3}},
		{zero, nil},
		{none, nil},
		{above(4095, zero), nil},
		{lam(nat, v(0)), nil},
		{lam(nat, v(1)), []int{0}},
		{lam(nat, lam(nat, app(v(0), v(1)))), nil},
		{lam(nat, lam(nat, app(v(2), v(1), v(5), v(2)))), []int{0, 3}},
		{app(lam(nat, v(0)), v(0)), []int{0}},
		{app(lam(nat, v(1)), v(1)), []int{0, 1}},
		{app(v(9), v(2), v(9), lam(nat, v(3)), v(5)), []int{2, 5, 9}},
		{app(v(10), v(9), v(8), v(7), v(6), v(5), v(4), v(3), v(2), v(1), v(0)), []int{0, 1, 2, 3, 4, 5, 6, 7, 8, 9, 10}},
		{rec(nat, v(0), lam(nat, lam(nat, v(4))), v(1)), []int{0, 1, 2}},
		{fold(nat, v(7), v(7), v(7)), []int{7}},
		{pair(v(greatest), lam(nat, v(greatest))), []int{greatest - 1, greatest}},
		{lams(4095, v(4095)), []int{0}},
		{lams(4095, v(4094)), nil},
	} {
		got, err := subst.Uses(q.t)
		closed, e := subst.Closed(q.t)
		must(t, strconv.Itoa(i), []any{got, err, closed, e}, []any{q.want, api.OK, len(q.want) == 0, api.OK})
	}
}

// P3.2: Lower, and its errors in their order.
func TestLower(t *testing.T) {
	bad, large := node(0), above(4096, v(0))
	for i, q := range []struct {
		t    api.Term
		at   int
		want api.Term
		err  api.Errno
	}{
		{v(0), 1, v(0), api.OK},
		{v(1), 0, v(0), api.OK},
		{v(2), 1, v(1), api.OK},
		{zero, 0, zero, api.OK},
		{lam(nat, v(0)), 0, lam(nat, v(0)), api.OK},
		{lam(nat, v(2)), 0, lam(nat, v(1)), api.OK},
		{lam(nat, v(1)), 1, lam(nat, v(1)), api.OK},
		{lam(nat, lam(nat, app(v(0), v(1), v(2), v(4)))), 1, lam(nat, lam(nat, app(v(0), v(1), v(2), v(3)))), api.OK},
		{app(lam(nat, v(1)), v(2)), 1, app(lam(nat, v(1)), v(1)), api.OK},
		{rec(nat, v(0), v(2), v(3)), 1, rec(nat, v(0), v(1), v(2)), api.OK},
		{fold(list, v(3), v(0), cons(v(2), v(0))), 1, fold(list, v(2), v(0), cons(v(1), v(0))), api.OK},
		{v(0), 4096, v(0), api.OK},
		{v(4097), 4096, v(4096), api.OK},
		{v(greatest), 0, v(greatest - 1), api.OK}, // no Index is too great for Lower
		{lams(4095, v(4096)), 0, lams(4095, v(4095)), api.OK},
		{bad, -1, api.Term{}, api.ErrForm},
		{pair(v(0), v(-1)), 0, api.Term{}, api.ErrForm},
		{large, -1, api.Term{}, api.ErrSize},
		{large, 0, api.Term{}, api.ErrSize},
		{v(0), -1, api.Term{}, api.ErrRange},
		{v(0), 4097, api.Term{}, api.ErrRange},
		{v(4097), 4097, api.Term{}, api.ErrRange},
		{lam(nat, v(0)), -1, api.Term{}, api.ErrRange},
		{v(0), greatest, api.Term{}, api.ErrRange},
		{v(0), -greatest - 1, api.Term{}, api.ErrRange},
		{v(0), 0, api.Term{}, api.ErrScope},
		{v(4096), 4096, api.Term{}, api.ErrScope},
		{lam(nat, v(1)), 0, api.Term{}, api.ErrScope},
		{app(lam(nat, v(0)), v(0)), 0, api.Term{}, api.ErrScope},
		{rec(nat, zero, lam(nat, lam(nat, v(3))), zero), 1, api.Term{}, api.ErrScope},
		{lams(4095, v(4095)), 0, api.Term{}, api.ErrScope},
	} {
		got, err := subst.Lower(q.t, q.at)
		mustTerm(t, strconv.Itoa(i), got, err, q.want, q.err)
	}
}

// P3.3: Put.
func TestPut(t *testing.T) {
	for i, q := range []struct {
		t    api.Term
		at   int
		s    api.Term
		want api.Term
	}{
		{v(0), 0, zero, zero},
		{v(1), 0, zero, v(0)},
		{v(0), 1, zero, v(0)},
		{v(0), 0, v(0), v(0)},
		{v(1), 1, v(0), v(1)}, // s stands in the context of the variables beyond 1
		{v(2), 2, app(v(0), v(1)), app(v(2), v(3))},
		{none, 0, v(3), none},
		{lam(nat, v(0)), 0, zero, lam(nat, v(0))},
		{lam(nat, v(1)), 0, zero, lam(nat, zero)},
		{lam(nat, v(2)), 0, zero, lam(nat, v(1))},
		{lam(nat, v(1)), 0, v(0), lam(nat, v(1))},
		{lam(nat, v(1)), 0, lam(list, app(v(0), v(1))), lam(nat, lam(list, app(v(0), v(2))))},
		{lam(nat, lam(nat, app(v(0), v(1), v(2), v(3), v(4)))), 1, v(2), lam(nat, lam(nat, app(v(0), v(1), v(2), v(5), v(3))))},
		{app(lam(nat, v(1)), v(0), lam(nat, lam(nat, v(2)))), 0, v(7), app(lam(nat, v(8)), v(7), lam(nat, lam(nat, v(9))))},
		{rec(nat, v(0), v(1), v(2)), 1, succ(v(0)), rec(nat, v(0), succ(v(1)), v(1))},
		{fold(nat, v(1), v(2), v(0)), 0, none, fold(nat, v(0), v(1), none)},
		{cons(v(0), none), 0, v(farthest), cons(v(farthest), none)},
		{lam(nat, v(1)), 0, v(farthest), lam(nat, v(farthest+1))},
		{app(v(farthest), v(0)), 0, zero, app(v(farthest-1), zero)},
		{v(4096), 4096, v(1), v(4097)},
		{lams(100, v(4196)), 4096, v(1), lams(100, v(4197))}, // farther than Lift may be asked for
		{lams(4095, v(8191)), 4096, v(farthest), lams(4095, v(farthest+8191))},
		{lams(4095, v(8190)), 4096, v(farthest), lams(4095, v(8190))},
		{zero, 0, above(4095, zero), zero},
		{v(1), 0, above(4095, zero), v(0)},
		{v(0), 0, above(4095, zero), above(4095, zero)},
		{above(4095, v(0)), 0, none, above(4095, none)},
		{above(4000, v(0)), 0, above(95, v(0)), above(4095, v(0))},
		{succ(full(10)), 0, above(4095, zero), succ(full(10))},
		{pair(v(0), v(0)), 0, above(2046, v(3)), pair(above(2046, v(3)), above(2046, v(3)))},
		{pair(v(0), lam(nat, v(1))), 0, above(2046, v(3)), pair(above(2046, v(3)), lam(nat, above(2046, v(4))))},
	} {
		got, err := subst.Put(q.t, q.at, q.s)
		mustTerm(t, strconv.Itoa(i), got, err, q.want, api.OK)
	}
}

// P3.3: the errors of Put, in their order.
func TestPutErrors(t *testing.T) {
	bad, large, distant := node(0), above(4096, v(0)), v(farthest+1)
	for i, q := range []struct {
		t    api.Term
		at   int
		s    api.Term
		want api.Errno
	}{
		{bad, -1, large, api.ErrForm},
		{pair(distant, v(-1)), 0, zero, api.ErrForm},
		{large, -1, bad, api.ErrSize},
		{v(0), -1, bad, api.ErrRange},
		{v(0), 4097, bad, api.ErrRange},
		{v(0), 4097, large, api.ErrRange},
		{v(0), greatest, zero, api.ErrRange},
		{v(0), -greatest - 1, zero, api.ErrRange},
		{v(4097), 4097, zero, api.ErrRange},
		{distant, 0, bad, api.ErrForm},
		{distant, 0, large, api.ErrSize},
		{zero, 0, bad, api.ErrForm}, // also where it would stand nowhere
		{zero, 0, large, api.ErrSize},
		{distant, 0, zero, api.ErrRange},
		{v(0), 0, distant, api.ErrRange},
		{zero, 0, lam(nat, distant), api.ErrRange},
		{pair(v(0), succ(distant)), 0, above(4095, zero), api.ErrRange},
		{v(0), 0, pair(zero, v(greatest)), api.ErrRange},
		{pair(v(0), v(0)), 0, above(4095, distant), api.ErrRange},
		{succ(v(0)), 0, above(4095, zero), api.ErrSize},
		{above(4000, v(0)), 0, above(96, zero), api.ErrSize},
		{pair(v(0), v(0)), 0, above(2047, zero), api.ErrSize},
		{pair(v(0), lam(nat, succ(v(1)))), 0, above(2046, zero), api.ErrSize},
		{pair(v(0), lams(2046, v(2046))), 0, above(2046, zero), api.ErrSize},
	} {
		got, err := subst.Put(q.t, q.at, q.s)
		mustTerm(t, strconv.Itoa(i), got, err, api.Term{}, q.want)
	}
}

// R1: trees that are no terms, at any depth, have the error of terms.Check in every call.
func TestNoTerms(t *testing.T) {
	for i, x := range []api.Term{
		{}, node(14), v(-1), lam(api.Type{}, v(0)), lam(fun(nat, api.Type{}), v(0)), node(api.TermRec, zero, zero, zero), succ(node(api.TermSucc)),
		rec(nat, zero, v(0), node(api.TermApp, zero)), pair(full(12), api.Term{Kind: api.TermZero, Index: 2}), above(4096, zero), full(12), full(18),
		above(1<<16, v(0)), above(1<<16, v(-1)), lams(1<<16, v(0)), lams(1<<16, node(api.TermPair, zero)),
		node(api.TermPair, slices.Repeat([]api.Term{zero}, 1<<16)...),
	} {
		want := terms.Check(x)
		must(t, strconv.Itoa(i)+": there is an error", want == api.ErrForm || want == api.ErrSize, true)
		a, e1 := subst.Lift(x, 0, 1)
		b, e2 := subst.Lower(x, 0)
		c, e3 := subst.Put(x, 0, zero)
		d, e4 := subst.Put(v(0), 0, x)
		l, e5 := subst.Uses(x)
		closed, e6 := subst.Closed(x)
		must(t, strconv.Itoa(i)+": errors", []api.Errno{e1, e2, e3, e4, e5, e6}, slices.Repeat([]api.Errno{want}, 6))
		must(t, strconv.Itoa(i)+": results", []any{a, b, c, d, len(l), closed}, []any{api.Term{}, api.Term{}, api.Term{}, api.Term{}, 0, false})
	}
}

// named returns a term as a text with names: bound variables are named by how many functions are above theirs, from start on, and free ones by a function that is told this number too.
func named(t api.Term, bound, start int, free func(i, level int) string) string {
	level := start + bound
	if t.Kind == api.TermVar && t.Index < bound {
		return "b" + strconv.Itoa(level-1-t.Index)
	}
	if t.Kind == api.TermVar {
		return free(t.Index-bound, level)
	}
	inner := bound
	if t.Kind == api.TermLam {
		inner++
	}
	l := []string{strconv.Itoa(t.Kind), strconv.Itoa(t.Type.Kind)}
	for _, a := range t.Args {
		l = append(l, named(a, inner, start, free))
	}
	return "(" + strings.Join(l, " ") + ")"
}

// text returns a term with the names x0, x1 and so on for its free variables.
func text(t api.Term) string { return named(t, 0, 0, name) }

func name(i, _ int) string { return "x" + strconv.Itoa(i) }

// P3.1 to P3.3: with names instead of numbers, lifting, lowering and putting in are other names for free variables.
func TestMeaning(t *testing.T) {
	parts := []api.Term{v(0), zero, lam(nat, app(v(0), v(1), v(3))), pair(v(1), lam(list, lam(nat, v(2))))}
	for i, x := range many() {
		for at := range 4 {
			what := strconv.Itoa(i) + " at " + strconv.Itoa(at)
			lifted, err := subst.Lift(x, at, 3)
			must(t, what+": Lift", []any{text(lifted), err}, []any{named(x, 0, 0, func(i, _ int) string {
				if i >= at {
					i += 3
				}
				return name(i, 0)
			}), api.OK})
			for _, s := range parts {
				got, err := subst.Put(x, at, s)
				must(t, what+": Put", []any{text(got), err}, []any{named(x, 0, 0, func(i, level int) string {
					switch {
					case i == at:
						return named(s, 0, level, func(j, _ int) string { return name(at+j, 0) })
					case i > at:
						i--
					}
					return name(i, 0)
				}), api.OK})
			}
		}
	}
}

// P3.1: Uses has the names of the free variables that the text has.
func TestUsesOfMany(t *testing.T) {
	for i, x := range many() {
		var want []int
		for n := range 10 {
			if strings.Contains(text(x), name(n, 0)) {
				want = append(want, n)
			}
		}
		got, err := subst.Uses(x)
		must(t, strconv.Itoa(i), []any{got, err}, []any{want, api.OK})
	}
}

// The chapter's consequences: Lower of Lift(t, at, 1) at at is t, and Put at a variable that does not occur is Lower.
func TestLowerOfLift(t *testing.T) {
	for i, x := range many() {
		for at := range 4 {
			what := strconv.Itoa(i) + " at " + strconv.Itoa(at)
			lifted, _ := subst.Lift(x, at, 1)
			back, err := subst.Lower(lifted, at)
			mustTerm(t, what+": Lower of Lift", back, err, x, api.OK)

			free, _ := subst.Uses(x)
			lowered, err := subst.Lower(x, at)
			must(t, what+": ErrScope", err == api.ErrScope, slices.Contains(free, at))
			if err == api.OK {
				put, err := subst.Put(x, at, succ(v(3)))
				mustTerm(t, what+": Put", put, err, lowered, api.OK)
			}
		}
	}
}

// The chapter's consequences: Put commutes with Lift.
func TestPutAndLift(t *testing.T) {
	s := pair(v(0), lam(nat, app(v(0), v(1), v(2))))
	for i, x := range many() {
		for at := range 3 {
			for from := range 4 {
				put, _ := subst.Put(x, at, s)
				first, err := subst.Lift(put, from, 2)
				must(t, "error", err, api.OK)
				var then api.Term
				if from <= at {
					lifted, _ := subst.Lift(x, from, 2)
					then, err = subst.Put(lifted, at+2, s)
				} else {
					lifted, _ := subst.Lift(x, from+1, 2)
					part, _ := subst.Lift(s, from-at, 2)
					then, err = subst.Put(lifted, at, part)
				}
				mustTerm(t, strconv.Itoa(i), then, err, first, api.OK)
			}
		}
	}
}

// The chapter's consequences: Put commutes with Put.
func TestPutAndPut(t *testing.T) {
	s, r := pair(v(0), lam(nat, app(v(0), v(1), v(2)))), lam(list, app(v(1), v(0)))
	for i, x := range many() {
		for a := range 3 {
			for b := a; b < 4; b++ {
				once, _ := subst.Put(x, a, s)
				want, err := subst.Put(once, b, r)
				must(t, "error", err, api.OK)
				once, _ = subst.Put(x, b+1, r)
				part, _ := subst.Put(s, b-a, r)
				got, err := subst.Put(once, a, part)
				mustTerm(t, strconv.Itoa(i), got, err, want, api.OK)
			}
		}
	}
}

// The chapter's consequences: what is put in keeps the type.
func TestPutKeepsTypes(t *testing.T) {
	context := []api.Type{list, fun(nat, nat), nat}
	found := 0
	for _, s := range []api.Term{v(0), v(1), v(2), succ(v(0)), lam(nat, app(v(2), v(1))), pair(v(2), lam(list, v(0))), lam(nat, v(3))} {
		u, err := terms.TypeOf(context, s)
		must(t, "type of what is put in", err, api.OK)
		for i, x := range many() {
			want, err := terms.TypeOf(append(slices.Clone(context), u), x)
			if err != api.OK {
				continue
			}
			found++
			put, _ := subst.Put(x, 0, s)
			got, err := terms.TypeOf(context, put)
			must(t, strconv.Itoa(i), []any{types.Same(got, want), err}, []any{true, api.OK})
		}
	}
	must(t, "terms with types", found > 500, true)
}

// The chapter's examples.
func TestExamples(t *testing.T) {
	got, err := subst.Put(succ(v(0)), 0, zero)
	mustTerm(t, "first", got, err, succ(zero), api.OK)
	got, err = subst.Put(lam(nat, v(1)), 0, v(3))
	mustTerm(t, "second", got, err, lam(nat, v(4)), api.OK)
}

// R2: arguments stay as they were, and so does what lies behind them in their memory.
func TestArgumentsStay(t *testing.T) {
	marked := func(t api.Term) api.Term {
		t.Args = append(t.Args, node(77))[:len(t.Args)]
		return t
	}
	x := marked(lam(fun(nat, list), marked(app(v(1), v(2), v(0)))))
	s := marked(pair(v(0), v(1)))
	wasX, wasS := deep(x), deep(s)

	subst.Lift(x, 0, 1)
	subst.Lower(x, 5)
	subst.Put(x, 0, s)
	subst.Put(x, 1, s)
	subst.Uses(x)
	subst.Closed(x)

	must(t, "first argument", deep(x), wasX)
	must(t, "what is put in", deep(s), wasS)
	must(t, "behind a body", x.Args[:2][1], node(77))
	must(t, "behind an application", x.Args[0].Args[:3][2], node(77))
	must(t, "behind what is put in", s.Args[:3][2], node(77))
}
