package decide_test

import (
	"fmt"
	"reflect"
	"slices"
	"strconv"
	"testing"

	"proofprograms/api"
	"proofprograms/decide"
	"proofprograms/machine"
	"proofprograms/samples"
	"proofprograms/value"
)

// The calls have exactly these signatures.
var (
	_ func(f api.Formula, work int) (bool, int, api.Errno)                = decide.Truth
	_ func(f api.Formula, l []api.Value, work int) (bool, int, api.Errno) = decide.Holds
	_ func(f api.Formula, bound, work int) (int, bool, int, api.Errno)    = decide.Least
)

// What the tests are made of.
var (
	nat, list, unit  = samples.Nat, samples.List, samples.Unit
	zero, none, only = samples.Zero, samples.None, samples.Only
	fun              = samples.Fun

	node, v, lam, app = samples.Node, samples.Var, samples.Lam, samples.App
	succ, pair        = samples.Succ, samples.Pair
	rec, fold         = samples.Rec, samples.Fold
	above, num        = samples.Above, samples.Number

	single                = samples.Single
	number, numbers, pack = samples.Num, samples.Nums, samples.Two

	falsum, eq, and, imp = samples.Falsum, samples.Eq, samples.And, samples.Imp
	all, ex, quant       = samples.All, samples.Ex, samples.Quant
	alls, ands, imps     = samples.Alls, samples.Ands, samples.Imps
	less, nested         = samples.Less, samples.Nested
	allBelow, exBelow    = samples.AllBelow, samples.ExBelow
	yes                  = eq(zero, zero) // true, two units of work
	identity, two        = lam(nat, v(0)), num(2)
)

// most is all the work that may be, least and greatest are the ends of the ints.
const (
	most     = api.MaxWork
	least    = -1 << 63
	greatest = 1<<63 - 1
)

// must fails the test if what a call returned is not what it should be (reflect tells nil from empty slices apart: nil is the zero value).
func must(t *testing.T, what string, got, want any) {
	t.Helper()
	if !reflect.DeepEqual(got, want) {
		t.Errorf("%s: got %.400s, want %.400s", what, fmt.Sprintf("%+v", got), fmt.Sprintf("%+v", want))
	}
}

// outcome is what Truth and Holds return.
type outcome struct {
	is   bool
	work int
	err  api.Errno
}

// truth and holds return the outcome of a call.
func truth(f api.Formula, work int) outcome {
	is, n, err := decide.Truth(f, work)
	return outcome{is, n, err}
}

func holds(f api.Formula, l []api.Value, work int) outcome {
	is, n, err := decide.Holds(f, l, work)
	return outcome{is, n, err}
}

// fewer returns limits of work that are not enough: all of them, if they are not too many.
func fewer(work int) []int {
	l := []int{0, work / 2, work - 1}
	for limit := range min(work, 60) {
		l = append(l, limit)
	}
	if work > 1000 {
		l = l[1:3]
	}
	return slices.DeleteFunc(l, func(limit int) bool { return limit < 0 || limit >= work })
}

// mustWork fails the test if a formula does not have this truth and this work, with any limit that is enough, and ErrSteps with any other one.
func mustWork(t *testing.T, what string, f api.Formula, is bool, work int) {
	t.Helper()
	for _, limit := range []int{work, work + 1, most} {
		must(t, what+" with enough work", truth(f, limit), outcome{is, work, api.OK})
	}
	for _, limit := range fewer(work) {
		must(t, what+" with work "+strconv.Itoa(limit), truth(f, limit), outcome{err: api.ErrSteps})
	}
}

// P9.1: equations.
func TestEquations(t *testing.T) {
	length := fold(nat, zero, lam(nat, lam(list, lam(nat, succ(v(0))))), samples.Numbers(4, 0))
	for i, q := range []struct {
		left, right api.Term
		is          bool
		work        int
	}{
		{zero, zero, true, 2},
		{zero, num(1), false, 3},
		{num(1), zero, false, 3},
		{num(5), num(5), true, 12},
		{num(5), num(7), false, 14},
		{app(identity, zero), zero, true, 5},
		{zero, app(identity, zero), true, 5},
		{num(1), app(identity, zero), false, 6},
		{app(lam(nat, app(lam(nat, succ(v(0))), v(0))), num(1)), two, true, 12},
		{node(api.TermFst, pair(num(3), none)), num(3), true, 11},
		{node(api.TermSnd, pair(only, zero)), zero, true, 5},
		{length, two, true, 23},
		{length, length, true, 40},
		{app(lam(fun(nat, nat), app(v(0), zero)), identity), zero, true, 8},
		{rec(nat, two, lam(nat, lam(nat, succ(v(0)))), two), num(4), true, 19},
		{num(2046), num(2047), false, 4095},
		{num(4093), zero, false, 4095},
	} {
		mustWork(t, strconv.Itoa(i), eq(q.left, q.right), q.is, q.work)
	}
}

// P9.1: conjunctions and implications, whose second parts are asked only if the first ones are true.
func TestConnectives(t *testing.T) {
	no := falsum()
	for i, q := range []struct {
		f    api.Formula
		is   bool
		work int
	}{
		{and(yes, yes), true, 4}, {and(yes, no), false, 5}, {and(no, yes), false, 3}, {and(no, no), false, 3},
		{imp(yes, yes), true, 4}, {imp(yes, no), false, 5}, {imp(no, yes), true, 3}, {imp(no, no), true, 3},
		{and(and(yes, yes), yes), true, 6}, {and(and(yes, no), yes), false, 5}, {and(and(no, yes), no), false, 3}, {and(yes, and(yes, no)), false, 7},
		{imp(imp(yes, no), no), true, 5}, {imp(imp(no, no), no), false, 6}, {imp(imp(no, no), yes), true, 5}, {imp(yes, imp(yes, no)), false, 7}, {imp(yes, imp(no, no)), true, 5},
		{and(imp(no, no), yes), true, 5}, {imp(and(yes, yes), no), false, 7}, {imp(and(yes, no), no), true, 5}, {and(imp(yes, no), yes), false, 5},
		{imp(imp(imp(yes, no), no), no), false, 8},
		{ands(817, yes), false, 5}, {ands(817, no), false, 3}, {imps(817, yes), true, 3},
		{imp(ands(817, yes), no), true, 5},
		{samples.FullFormula(9), false, 3},
	} {
		mustWork(t, strconv.Itoa(i), q.f, q.is, q.work)
	}
	long := yes
	for range 800 {
		long = and(long, yes)
	}
	mustWork(t, "many true ones", long, true, 1602)
}

// P9.1: bounded quantifiers: the limit once, one unit of work for each number, and no number behind the one that decides.
func TestBounded(t *testing.T) {
	no, limit := falsum(), app(lam(nat, succ(v(0))), num(1)) // 2, in 6 units of work
	for i, q := range []struct {
		f    api.Formula
		is   bool
		work int
	}{
		{allBelow(zero, no), true, 1}, {exBelow(zero, yes), false, 1}, {allBelow(zero, yes), true, 1}, {exBelow(zero, no), false, 1},
		{allBelow(num(1), yes), true, 5}, {allBelow(num(1), no), false, 6}, {exBelow(num(1), yes), true, 5}, {exBelow(num(1), no), false, 6},
		{allBelow(num(3), yes), true, 13}, {allBelow(num(3), no), false, 8}, {exBelow(num(3), no), false, 16}, {exBelow(num(3), yes), true, 7},
		{allBelow(limit, yes), true, 12}, {exBelow(limit, no), false, 14}, {allBelow(app(identity, zero), no), true, 4}, {exBelow(app(identity, zero), yes), false, 4},
		{allBelow(num(3), eq(v(0), zero)), false, 11},
		{exBelow(num(4), eq(v(0), two)), true, 23},
		{exBelow(num(3), eq(v(0), two)), true, 22},
		{exBelow(two, eq(v(0), two)), false, 14},
		{allBelow(num(3), imp(eq(v(0), v(0)), eq(app(lam(nat, v(1)), zero), v(0)))), true, 4 + 8 + 12 + 16},
		// Numbers below other ones, and limits that have them.
		{allBelow(num(3), allBelow(v(1), eq(v(0), v(1)))), false, 13},
		{allBelow(num(3), exBelow(succ(v(1)), eq(v(0), v(1)))), true, 46},
		{exBelow(two, allBelow(zero, no)), true, 5},
		{allBelow(two, exBelow(zero, yes)), false, 5},
		{allBelow(two, allBelow(two, allBelow(two, yes))), true, 3 + 2*(1+3+2*(1+3+2*3))},
		{exBelow(two, exBelow(two, exBelow(two, and(eq(v(0), num(1)), and(eq(v(1), num(1)), eq(v(2), num(1))))))), true, 84},
		{allBelow(zero, exBelow(v(1), no)), true, 1},
		{imp(allBelow(two, eq(v(0), zero)), no), true, 10},
		{and(exBelow(two, eq(v(0), num(1))), no), false, 15},
		// The chapter's example, where nothing is bounded.
		{less(num(1), two), true, 37},
	} {
		mustWork(t, strconv.Itoa(i), q.f, q.is, q.work)
	}
	for a := range 5 {
		for b := range 5 {
			f := less(num(a), num(b))
			_, work, _ := machine.Eval(f.Terms[0], most)
			mustWork(t, fmt.Sprint(a, " < ", b), f, a < b, work+1)
		}
	}
}

// P9.1: many bounded quantifiers below each other, more than a context may have variables.
func TestNested(t *testing.T) {
	mustWork(t, "all below 0", nested(163, true, falsum()), true, 1)
	mustWork(t, "some below 0", nested(163, false, yes), false, 1)
	sum, f := v(0), yes
	for i := range 20 {
		sum = app(app(value.Plus(), sum), v(i))
	}
	f = eq(sum, zero)
	for i := range 20 {
		if i%2 == 0 {
			f = allBelow(num(1), f)
		} else {
			f = exBelow(num(1), f)
		}
	}
	_, work, _ := machine.Eval(closed(sum, 0, slices.Repeat([]int{0}, 20)), most)
	mustWork(t, "20 of them", f, true, 20*3+work+1)
	f = eq(zero, num(1))
	for range 150 {
		f = exBelow(num(1), f)
	}
	mustWork(t, "150 of them", f, false, 150*3+3)
}

// P9.1: the errors before any work, in their order.
func TestTruthErrors(t *testing.T) {
	open, untyped, undecided := eq(v(0), zero), eq(none, zero), all(nat, yes)
	for i, q := range []struct {
		f    api.Formula
		want api.Errno
	}{
		{api.Formula{}, api.ErrForm}, {and(undecided, api.Formula{}), api.ErrForm}, {and(eq(num(4096), zero), eq(v(-1), zero)), api.ErrForm}, {and(open, api.Formula{}), api.ErrForm},
		{eq(num(4094), zero), api.ErrSize}, {and(open, eq(num(4096), zero)), api.ErrSize}, {alls(4093, falsum()), api.ErrSize},
		{open, api.ErrScope}, {eq(zero, v(greatest)), api.ErrScope}, {and(undecided, open), api.ErrScope}, {and(open, untyped), api.ErrScope}, {and(falsum(), open), api.ErrScope},
		{all(nat, eq(v(0), v(1))), api.ErrScope}, {allBelow(v(1), yes), api.ErrScope}, {exBelow(zero, eq(v(1), zero)), api.ErrScope}, {imp(falsum(), allBelow(zero, open)), api.OK},
		{untyped, api.ErrType}, {eq(zero, only), api.ErrType}, {eq(none, none), api.ErrType}, {eq(identity, identity), api.ErrType}, {and(untyped, open), api.ErrType}, {and(falsum(), untyped), api.ErrType},
		{all(list, eq(v(0), zero)), api.ErrType}, {allBelow(none, yes), api.ErrType}, {allBelow(zero, untyped), api.ErrType}, {eq(app(zero, zero), zero), api.ErrType}, {imp(undecided, untyped), api.ErrType},
		{undecided, api.ErrUndecided}, {ex(nat, yes), api.ErrUndecided}, {quant(api.FormAllU, nat, yes), api.ErrUndecided}, {quant(api.FormExU, unit, yes), api.ErrUndecided}, {all(list, yes), api.ErrUndecided},
		{and(falsum(), undecided), api.ErrUndecided}, {and(undecided, falsum()), api.ErrUndecided}, {imp(falsum(), undecided), api.ErrUndecided}, {imp(undecided, yes), api.ErrUndecided},
		{allBelow(zero, undecided), api.ErrUndecided}, {exBelow(zero, ex(nat, yes)), api.ErrUndecided}, {all(nat, allBelow(v(1), yes)), api.ErrUndecided},
		{all(nat, and(less(v(0), two), yes)), api.ErrUndecided}, {ex(nat, imp(less(v(0), two), yes)), api.ErrUndecided}, {quant(api.FormAllU, nat, imp(less(v(0), two), yes)), api.ErrUndecided},
		{allBelow(v(0), yes), api.ErrUndecided}, {exBelow(succ(v(0)), yes), api.ErrUndecided}, {all(nat, imp(less(zero, two), yes)), api.ErrUndecided}, {all(nat, less(v(0), two)), api.ErrUndecided},
	} {
		want := q.want
		if want == api.OK { // only the number of work is wrong
			want = api.ErrRange
		}
		for _, work := range []int{-1, least, api.MaxWork + 1, greatest} {
			must(t, strconv.Itoa(i), truth(q.f, work), outcome{err: want})
		}
		if q.want != api.OK {
			for _, work := range []int{0, 1, most} {
				must(t, strconv.Itoa(i)+" with work that may be", truth(q.f, work), outcome{err: want})
			}
		}
	}
	for _, work := range []int{-1, least, api.MaxWork + 1, greatest, 1 << 32} {
		must(t, "work "+strconv.Itoa(work), truth(yes, work), outcome{err: api.ErrRange})
	}
}

// P9.1 to P9.3: trees of a wrong form, and too large ones, at any place; all other arguments are wrong as well.
func TestForm(t *testing.T) {
	mustRefuse := func(what string, f api.Formula, want api.Errno) {
		t.Helper()
		must(t, what, []outcome{truth(f, -1), holds(f, []api.Value{{}}, -1)}, slices.Repeat([]outcome{{err: want}}, 2))
		must(t, what, leastOf(f, -1, -1), found{err: want})
		must(t, what, []outcome{truth(f, most), holds(f, nil, most)}, slices.Repeat([]outcome{{err: want}}, 2))
		must(t, what, leastOf(f, 3, most), found{err: want})
	}
	for i, bad := range samples.WrongFormulas() {
		for j, f := range []api.Formula{
			bad, and(bad, falsum()), and(falsum(), bad), imp(falsum(), imp(bad, yes)), allBelow(zero, bad), exBelow(two, allBelow(v(1), bad)), all(nat, imp(bad, yes)),
			ands(3000, bad), imps(3000, bad),
		} {
			mustRefuse(fmt.Sprint("formula ", i, " at place ", j), f, api.ErrForm)
		}
	}
	for i, bad := range samples.WrongTerms() {
		for j, f := range []api.Formula{
			eq(bad, zero), and(falsum(), eq(zero, succ(bad))), allBelow(bad, yes), exBelow(lam(nat, pair(zero, bad)), yes), allBelow(zero, eq(above(5000, bad), v(9))),
		} {
			mustRefuse(fmt.Sprint("term ", i, " at place ", j), f, api.ErrForm)
		}
	}
	for what, f := range samples.LargeFormulas() {
		mustRefuse(what, f, api.ErrSize)
	}
}

// double returns a term whose value is twice that of a number n, in 4*n + 7 units of work.
func double(t api.Term) api.Term {
	return app(lam(nat, rec(nat, v(0), lam(nat, lam(nat, succ(v(0)))), v(0))), t)
}

// fat returns a formula that is false by an equation of 0 and n, in 2 + n units of work, and has m equations of a variable with itself behind that: 3 + n + 4*m nodes.
func fat(n, m, variable int) api.Formula {
	f := eq(v(variable), v(variable))
	for range m - 1 {
		f = and(f, eq(v(variable), v(variable)))
	}
	return and(eq(zero, num(n)), f)
}

// P9.1: ErrSize, where it is met, and ErrSteps, where that comes first.
func TestErrorsMet(t *testing.T) {
	// With 1 in their places, fat(1, 682, 0) and below have 4096 nodes, large and wide one more.
	below := func(n int) api.Formula { return allBelow(num(n), fat(1, 677, 1)) }
	mustWork(t, "as many nodes as may be", exBelow(two, fat(1, 682, 0)), false, 3+4+4)
	mustWork(t, "as many with a quantifier", exBelow(two, below(5)), false, 3+11+11)
	large, wide := exBelow(two, fat(2, 682, 0)), exBelow(two, below(6))
	unmet := imp(eq(v(0), num(2)), fat(1, 900, 0)) // too large in place of 1, before its premise is asked
	for i, q := range []struct {
		f    api.Formula
		work int // that is just enough to meet ErrSize
	}{
		{large, 3 + 5 + 1},
		{wide, 3 + 12 + 1},
		{allBelow(two, unmet), 3 + 5 + 1},
		{and(large, yes), 9}, {and(large, falsum()), 9}, {imp(large, yes), 9}, {and(yes, large), 2 + 9}, {imp(yes, large), 2 + 9}, {imp(imp(yes, large), yes), 2 + 9},
		{allBelow(two, large), 3 + 1 + 9}, {exBelow(two, large), 3 + 1 + 9}, {exBelow(two, imp(large, falsum())), 3 + 1 + 9},
		{exBelow(two, imp(eq(v(0), zero), exBelow(two, fat(2, 682, 0)))), 3 + 1 + 2 + 9},
	} {
		what := strconv.Itoa(i)
		for _, work := range []int{q.work, q.work + 1, most} {
			must(t, what, truth(q.f, work), outcome{err: api.ErrSize})
		}
		for work := range q.work {
			must(t, what+" with less work", truth(q.f, work), outcome{err: api.ErrSteps})
		}
	}
	// What is not asked for is no error.
	mustWork(t, "behind a false one", and(falsum(), large), false, 3)
	mustWork(t, "behind a false premise", imp(falsum(), large), true, 3)
	mustWork(t, "behind one that decides", exBelow(two, imp(fat(2, 682, 0), falsum())), true, 3+1+4)
}

// P9.1: the numbers below 4096 have terms.
func TestManyNumbers(t *testing.T) {
	every, beyond := allBelow(double(num(2048)), yes), allBelow(succ(double(num(2048))), yes)
	must(t, "all numbers", truth(every, 8199+3*4096), outcome{true, 8199 + 3*4096, api.OK})
	must(t, "one more", truth(beyond, 8200+3*4096+1), outcome{err: api.ErrSize})
	must(t, "one more with less work", truth(beyond, 8200+3*4096), outcome{err: api.ErrSteps})
	must(t, "with the first one that decides", truth(exBelow(double(num(2100)), yes), most), outcome{true, 4*2100 + 7 + 3, api.OK})
}
