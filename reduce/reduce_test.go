package reduce_test

import (
	"fmt"
	"reflect"
	"slices"
	"strconv"
	"testing"

	"proofprograms/api"
	"proofprograms/reduce"
	"proofprograms/samples"
	"proofprograms/subst"
	"proofprograms/terms"
	"proofprograms/types"
)

// The calls have exactly these signatures.
var (
	_ func(t api.Term) (bool, api.Errno)                     = reduce.Redex
	_ func(t api.Term) (api.Term, api.Errno)                 = reduce.Contract
	_ func(t api.Term) (api.Term, bool, api.Errno)           = reduce.Step
	_ func(t api.Term, steps int) (api.Term, int, api.Errno) = reduce.Normal
	_ func(a, b api.Term, steps int) api.Errno               = reduce.Match
)

// What the tests are made of.
var (
	nat, list, fun   = samples.Nat, samples.List, samples.Fun
	zero, none, only = samples.Zero, samples.None, samples.Only

	node, v, lam, app = samples.Node, samples.Var, samples.Lam, samples.App
	succ, cons, pair  = samples.Succ, samples.Cons, samples.Pair
	rec, fold         = samples.Rec, samples.Fold
	above, full, deep = samples.Above, samples.Full, samples.Deep
	num, numbers      = samples.Number, samples.Numbers
)

// The greatest Index that may be reduced, and the greatest number.
const (
	farthest = 1 << 29
	greatest = 1<<63 - 1
)

// first and second return a part of a pair.
func first(p api.Term) api.Term  { return node(api.TermFst, p) }
func second(p api.Term) api.Term { return node(api.TermSnd, p) }

// Some closed functions: the identity, the pair of something with itself, and those of arithmetic.
var (
	id     = lam(nat, v(0))
	double = lam(nat, pair(v(0), v(0)))
	plus   = lam(nat, lam(nat, rec(nat, v(1), lam(nat, lam(nat, succ(v(0)))), v(0))))
	times  = lam(nat, lam(nat, rec(nat, zero, lam(nat, lam(nat, app(plus, v(0), v(3)))), v(0))))
	sum    = lam(list, fold(nat, zero, lam(nat, lam(list, lam(nat, app(plus, v(0), v(2))))), v(0)))
)

// endless has no normal form, and stays as large as it is.
func endless() api.Term {
	half := lam(nat, app(v(0), v(0)))
	return app(half, half)
}

// must fails the test if what a call returned is not what it should be (reflect tells nil from empty slices apart: nil is the zero value).
func must(t *testing.T, what string, got, want any) {
	t.Helper()
	if !reflect.DeepEqual(got, want) {
		t.Errorf("%s: got %+v, want %+v", what, got, want)
	}
}

// mustTerm fails the test if a call did not return this term, this number or truth, and this error, or anything else with an error.
func mustTerm[T comparable](t *testing.T, what string, got api.Term, also T, err api.Errno, want api.Term, wantAlso T, wantErr api.Errno) {
	t.Helper()
	if err != wantErr || also != wantAlso || !terms.Same(got, want) {
		t.Errorf("%s: got %.300s, %v, %d, want %.300s, %v, %d", what, fmt.Sprint(got), also, err, fmt.Sprint(want), wantAlso, wantErr)
	}
	if wantErr != api.OK {
		var nothing T
		must(t, what+": results with an error", []any{got, also}, []any{api.Term{}, nothing})
	}
}

// mustNormal fails the test if a term has not this normal form after exactly that many steps.
func mustNormal(t *testing.T, what string, x, want api.Term, count int) {
	t.Helper()
	got, n, err := reduce.Normal(x, count)
	mustTerm(t, what, got, n, err, want, count, api.OK)
	got, n, err = reduce.Normal(x, min(count+1, api.MaxWork))
	mustTerm(t, what+" with more steps", got, n, err, want, count, api.OK)
	if count > 0 {
		got, n, err = reduce.Normal(x, count-1)
		mustTerm(t, what+" with a step too few", got, n, err, api.Term{}, 0, api.ErrSteps)
	}
}

// mustEnd fails the test if Normal has not this error.
func mustEnd(t *testing.T, what string, x api.Term, steps int, want api.Errno) {
	t.Helper()
	got, n, err := reduce.Normal(x, steps)
	mustTerm(t, what, got, n, err, api.Term{}, 0, want)
}

// redexes are a redex of each line of the chapter's table, and what it becomes.
var redexes = []struct{ from, to api.Term }{
	{app(lam(nat, succ(v(0))), zero), succ(zero)},
	{app(lam(nat, v(1)), zero), v(0)},
	{app(lam(list, app(v(0), v(2), v(0))), cons(v(3), v(0))), app(cons(v(3), v(0)), v(1), cons(v(3), v(0)))},
	{app(lam(nat, lam(nat, v(1))), v(4)), lam(nat, v(5))},
	{app(lam(nat, app(v(0), v(0))), lam(nat, app(v(0), v(0)))), endless()},
	{app(lam(nat, only), endless()), only},
	{rec(nat, v(3), v(5), zero), v(3)},
	{rec(list, none, endless(), zero), none},
	{rec(nat, v(3), v(5), succ(v(7))), app(v(5), v(7), rec(nat, v(3), v(5), v(7)))},
	{rec(fun(nat, nat), v(3), lam(list, v(0)), num(2)), app(lam(list, v(0)), num(1), rec(fun(nat, nat), v(3), lam(list, v(0)), num(1)))},
	{rec(nat, zero, v(0), succ(none)), app(v(0), none, rec(nat, zero, v(0), none))},
	{fold(nat, v(3), v(5), none), v(3)},
	{fold(list, v(3), v(5), cons(v(1), v(2))), app(v(5), v(1), v(2), fold(list, v(3), v(5), v(2)))},
	{fold(nat, zero, lam(nat, v(4)), numbers(7, 8)), app(lam(nat, v(4)), num(7), numbers(8), fold(nat, zero, lam(nat, v(4)), numbers(8)))},
	{first(pair(v(1), v(2))), v(1)},
	{second(pair(v(1), v(2))), v(2)},
	{first(pair(endless(), zero)), endless()},
	{second(pair(endless(), zero)), zero},
	{app(lam(nat, v(0)), v(farthest)), v(farthest)},
	{app(lam(nat, lam(nat, v(1))), v(farthest)), lam(nat, v(farthest+1))},
	{app(double, num(2046)), pair(num(2046), num(2046))},
	{app(lam(nat, above(4092, v(1))), zero), above(4092, v(0))},
	// 4096 nodes
	{rec(nat, zero, num(1022), num(1023)), app(num(1022), num(1022), rec(nat, zero, num(1022), num(1022)))},
	{fold(nat, zero, num(1044), cons(zero, num(999))), app(num(1044), zero, num(999), fold(nat, zero, num(1044), num(999)))},
	{app(lam(nat, pair(v(0), succ(v(0)))), num(2046)), pair(num(2046), num(2047))},
}

// others are terms whose root is no redex.
var others = []api.Term{
	v(0), zero, none, only, num(3), numbers(1, 2), lam(nat, app(id, v(0))), succ(app(id, v(0))), pair(app(id, zero), zero), cons(zero, first(pair(none, none))),
	app(v(0), zero), app(zero, zero), app(app(lam(nat, id), zero), zero), app(first(pair(id, id)), zero), app(pair(id, id), zero), app(v(0), id), app(rec(fun(nat, nat), id, v(0), zero), zero),
	rec(nat, zero, v(0), v(0)), rec(nat, zero, v(0), none), rec(nat, zero, v(0), numbers(1)), rec(nat, zero, v(0), app(id, zero)), rec(nat, succ(zero), zero, v(0)), rec(nat, zero, v(0), lam(nat, zero)), rec(nat, app(id, zero), v(0), only),
	fold(nat, none, v(0), v(0)), fold(nat, none, v(0), zero), fold(nat, none, v(0), num(2)), fold(nat, none, v(0), first(pair(none, none))), fold(nat, none, none, v(0)), fold(nat, cons(zero, none), v(0), pair(zero, none)),
	first(v(0)), first(zero), first(first(pair(zero, zero))), first(lam(nat, pair(zero, zero))), first(cons(zero, none)), second(v(0)), second(app(double, zero)), second(second(v(0))),
}

// P4.1: Redex and Contract.
func TestRedexAndContract(t *testing.T) {
	for i, q := range redexes {
		is, err := reduce.Redex(q.from)
		must(t, strconv.Itoa(i)+": Redex", []any{is, err}, []any{true, api.OK})
		got, err := reduce.Contract(q.from)
		mustTerm(t, strconv.Itoa(i)+": Contract", got, 0, err, q.to, 0, api.OK)
	}
	for i, x := range others {
		is, err := reduce.Redex(x)
		must(t, strconv.Itoa(i)+": no redex", []any{is, err}, []any{false, api.OK})
		got, err := reduce.Contract(x)
		mustTerm(t, strconv.Itoa(i)+": nothing to contract", got, 0, err, api.Term{}, 0, api.ErrNone)
	}
}

// Terms for the errors: no term, a term that is too large, one with too great an Index, and redexes whose contraction or the term around it is too large.
var (
	bad      = node(0)
	huge     = above(api.MaxTerm, zero)
	distant  = v(farthest + 1)
	swelling = app(double, num(2047)) // becomes 4097 nodes
	filling  = app(double, num(2046)) // becomes 4095 nodes
)

// P4.1: the errors of Redex and Contract, in their order.
func TestContractErrors(t *testing.T) {
	for i, q := range []struct {
		t        api.Term
		is       bool
		err, own api.Errno // of Redex, and of Contract
	}{
		{bad, false, api.ErrForm, api.ErrForm},
		{huge, false, api.ErrSize, api.ErrSize},
		{first(pair(distant, v(-1))), false, api.ErrForm, api.ErrForm},
		{app(lam(nat, v(0)), huge), false, api.ErrSize, api.ErrSize},
		{distant, false, api.OK, api.ErrNone},
		{succ(swelling), false, api.OK, api.ErrNone},
		{first(pair(distant, zero)), true, api.OK, api.ErrRange},
		{first(pair(zero, distant)), true, api.OK, api.ErrRange}, // also where it would be gone
		{second(pair(distant, zero)), true, api.OK, api.ErrRange},
		{app(lam(nat, zero), distant), true, api.OK, api.ErrRange},
		{app(lam(nat, distant), zero), true, api.OK, api.ErrRange},
		{app(lam(nat, v(0)), v(greatest)), true, api.OK, api.ErrRange},
		{rec(nat, zero, distant, zero), true, api.OK, api.ErrRange},
		{rec(nat, distant, zero, zero), true, api.OK, api.ErrRange},
		{rec(nat, zero, zero, succ(distant)), true, api.OK, api.ErrRange},
		{fold(nat, zero, lam(nat, pair(zero, distant)), none), true, api.OK, api.ErrRange},
		{fold(nat, zero, zero, cons(distant, none)), true, api.OK, api.ErrRange},
		{app(double, above(2047, distant)), true, api.OK, api.ErrRange},
		{swelling, true, api.OK, api.ErrSize},
		{rec(nat, zero, num(1022), num(1024)), true, api.OK, api.ErrSize},
		{rec(nat, num(1), num(1022), num(1023)), true, api.OK, api.ErrSize},
		{fold(nat, zero, num(1044), cons(num(1), num(999))), true, api.OK, api.ErrSize},
		{fold(nat, num(1), num(1044), cons(zero, num(999))), true, api.OK, api.ErrSize},
	} {
		is, err := reduce.Redex(q.t)
		must(t, strconv.Itoa(i)+": Redex", []any{is, err}, []any{q.is, q.err})
		got, err := reduce.Contract(q.t)
		mustTerm(t, strconv.Itoa(i)+": Contract", got, 0, err, api.Term{}, 0, q.own)
	}
}

// P4.2: Step.
func TestStep(t *testing.T) {
	a, b := app(id, num(1)), app(id, num(2))
	for i, q := range []struct{ from, to api.Term }{
		// the first one from the left, in each Arg
		{pair(a, b), pair(num(1), b)},
		{pair(v(0), b), pair(v(0), num(2))},
		{cons(a, first(pair(none, none))), cons(num(1), first(pair(none, none)))},
		{app(v(0), a), app(v(0), num(1))},
		{app(app(v(0), a), b), app(app(v(0), num(1)), b)},
		{succ(succ(a)), num(3)},
		{lam(nat, app(v(0), a)), lam(nat, app(v(0), num(1)))},
		{rec(nat, a, app(id, v(3)), b), rec(nat, num(1), app(id, v(3)), b)},
		{rec(nat, v(0), app(id, v(3)), b), rec(nat, v(0), v(3), b)},
		{rec(nat, v(0), v(3), b), rec(nat, v(0), v(3), num(2))},
		{fold(nat, a, app(id, v(3)), b), fold(nat, num(1), app(id, v(3)), b)},
		{fold(nat, v(0), app(id, v(3)), b), fold(nat, v(0), v(3), b)},
		{fold(nat, v(0), v(3), b), fold(nat, v(0), v(3), num(2))},
		{first(first(pair(a, b))), first(a)},
		{second(app(id, v(2))), second(v(2))},
		// the root before what is in it
		{first(pair(a, b)), a},
		{second(pair(a, b)), b},
		{app(lam(nat, app(id, v(0))), a), app(id, a)},
		{app(lam(nat, zero), endless()), zero},
		{rec(nat, a, b, zero), a},
		{rec(nat, a, b, succ(a)), app(b, a, rec(nat, a, b, a))},
		{fold(nat, a, b, none), a},
		{fold(nat, a, b, cons(a, b)), app(b, a, b, fold(nat, a, b, b))},
		// a node that was no redex may be the next one
		{app(app(lam(nat, id), zero), a), app(id, a)},
		{rec(nat, v(0), v(1), app(id, zero)), rec(nat, v(0), v(1), zero)},
		// free variables of a redex below functions
		{lam(nat, app(lam(nat, app(v(0), v(1), v(2))), v(1))), lam(nat, app(v(1), v(0), v(1)))},
		{lam(nat, lam(list, app(lam(nat, lam(nat, v(1))), v(5)))), lam(nat, lam(list, lam(nat, v(6))))},
		// at the limits
		{above(4092, app(id, v(0))), above(4092, v(0))},
		{succ(filling), succ(pair(num(2046), num(2046)))},
		{lam(nat, app(lam(nat, lam(nat, v(1))), v(farthest))), lam(nat, lam(nat, v(farthest+1)))},
	} {
		got, done, err := reduce.Step(q.from)
		mustTerm(t, strconv.Itoa(i), got, done, err, q.to, true, api.OK)
	}
	for i, q := range redexes {
		got, done, err := reduce.Step(q.from)
		mustTerm(t, strconv.Itoa(i)+": root", got, done, err, q.to, true, api.OK)
	}
	for i, x := range []api.Term{v(0), zero, num(3), v(farthest), num(4095), full(11), lam(nat, app(v(0), v(0))), app(v(0), num(1)), rec(nat, zero, id, v(0)), fold(nat, zero, v(1), app(v(0), v(1))), first(first(v(0))), app(pair(id, id), zero), rec(nat, zero, zero, none)} {
		got, done, err := reduce.Step(x)
		mustTerm(t, strconv.Itoa(i)+": normal", got, done, err, x, false, api.OK)
	}
}

// P4.2: the errors of Step, in their order.
func TestStepErrors(t *testing.T) {
	for i, q := range []struct {
		t    api.Term
		want api.Errno
	}{
		{bad, api.ErrForm},
		{pair(distant, v(-1)), api.ErrForm},
		{pair(swelling, bad), api.ErrForm},
		{huge, api.ErrSize},
		{above(4096, distant), api.ErrSize},
		{distant, api.ErrRange}, // also where there is no redex
		{pair(app(id, zero), distant), api.ErrRange},
		{first(pair(zero, distant)), api.ErrRange},
		{pair(swelling, distant), api.ErrRange},
		{lam(nat, lam(nat, v(greatest))), api.ErrRange},
		{swelling, api.ErrSize},
		{pair(zero, swelling), api.ErrSize},
		{succ(succ(filling)), api.ErrSize},
		{pair(filling, zero), api.ErrSize},
		{pair(zero, filling), api.ErrSize},
		{above(2049, lam(nat, rec(nat, zero, num(1021), num(1021)))), api.ErrSize},
	} {
		got, done, err := reduce.Step(q.t)
		mustTerm(t, strconv.Itoa(i), got, done, err, api.Term{}, false, q.want)
	}
}

// P4.3: Normal.
func TestNormal(t *testing.T) {
	for i, q := range []struct {
		from, to api.Term
		count    int
	}{
		{v(7), v(7), 0},
		{num(4095), num(4095), 0},
		{full(11), full(11), 0},
		{app(pair(id, id), zero), app(pair(id, id), zero), 0},
		{app(lam(nat, succ(v(0))), zero), succ(zero), 1},
		{app(id, app(id, app(id, v(2)))), v(2), 3},
		{pair(app(id, zero), app(id, num(1))), pair(zero, num(1)), 2},
		{app(plus, num(2), num(0)), num(2), 3},
		{app(plus, num(2), num(1)), num(3), 6},
		{app(plus, num(0), num(3)), num(3), 12},
		{lam(nat, app(plus, v(0), num(1))), lam(nat, succ(v(0))), 6},
		{app(plus, v(3), v(5)), rec(nat, v(3), lam(nat, lam(nat, succ(v(0)))), v(5)), 2},
		{rec(fun(nat, nat), id, lam(nat, lam(fun(nat, nat), lam(nat, succ(app(v(1), v(0)))))), num(2)), lam(nat, succ(succ(v(0)))), 9},
		// what is in an argument that is used twice is reduced twice
		{app(double, app(plus, num(1), num(1))), pair(num(2), num(2)), 13},
		{first(app(double, app(plus, num(1), num(1)))), num(2), 8},
		// a node that has become a redex comes before the rest of what made it one
		{first(app(lam(nat, pair(v(0), endless())), zero)), zero, 2},
		{second(app(lam(nat, pair(endless(), v(0))), zero)), zero, 2},
		{first(first(app(lam(nat, pair(pair(v(0), endless()), endless())), zero))), zero, 3},
		{rec(nat, zero, lam(nat, lam(nat, only)), app(lam(nat, succ(endless())), zero)), only, 4},
		{fold(nat, zero, lam(nat, lam(list, lam(nat, only))), app(lam(nat, cons(endless(), endless())), zero)), only, 5},
		{app(app(lam(nat, lam(nat, only)), endless()), endless()), only, 2},
		{app(first(app(lam(nat, pair(lam(nat, v(1)), endless())), num(3))), endless()), num(3), 3},
		{app(lam(nat, zero), endless()), zero, 1},
	} {
		mustNormal(t, strconv.Itoa(i), q.from, q.to, q.count)
	}
	for i, x := range []struct{ from, to api.Term }{
		{app(times, num(3), num(4)), num(12)},
		{app(times, num(20), num(30)), num(600)},
		{app(plus, num(1000), num(300)), num(1300)},
		{app(sum, numbers(3, 1, 4, 1, 5)), num(14)},
		{lam(nat, app(plus, app(sum, cons(v(0), numbers(1))), zero)), lam(nat, rec(nat, num(1), lam(nat, lam(nat, succ(v(0)))), v(0)))},
	} {
		got, count, err := reduce.Normal(x.from, api.MaxWork)
		mustTerm(t, strconv.Itoa(i)+": value", got, count, err, x.to, count, api.OK)
		mustNormal(t, strconv.Itoa(i)+": value", x.from, x.to, count)
	}
}

// P4.3: the errors of Normal, in their order.
func TestNormalErrors(t *testing.T) {
	growing := lam(nat, pair(app(v(0), v(0)), v(0)))
	for i, q := range []struct {
		t     api.Term
		steps int
		want  api.Errno
	}{
		{bad, -1, api.ErrForm},
		{pair(distant, bad), -1, api.ErrForm},
		{huge, -1, api.ErrSize},
		{above(4096, distant), 1, api.ErrSize},
		{zero, -1, api.ErrRange},
		{zero, api.MaxWork + 1, api.ErrRange},
		{zero, greatest, api.ErrRange},
		{zero, -greatest - 1, api.ErrRange},
		{swelling, -1, api.ErrRange},
		{distant, 0, api.ErrRange},
		{distant, 1, api.ErrRange},
		{first(pair(zero, distant)), 1, api.ErrRange},
		{pair(swelling, distant), 1, api.ErrRange},
		{swelling, 1, api.ErrSize},
		{swelling, api.MaxWork, api.ErrSize},
		{app(growing, growing), api.MaxWork, api.ErrSize},
		{app(id, app(id, swelling)), 3, api.ErrSize},
		{succ(succ(app(id, filling))), 2, api.ErrSize},
		// not of the steps that are permitted
		{swelling, 0, api.ErrSteps},
		{app(id, app(id, swelling)), 2, api.ErrSteps},
		{succ(succ(app(id, filling))), 1, api.ErrSteps},
		{app(growing, growing), 3, api.ErrSteps},
		{app(id, zero), 0, api.ErrSteps},
		{app(id, app(id, zero)), 1, api.ErrSteps},
		{endless(), 0, api.ErrSteps},
		{endless(), 1000, api.ErrSteps},
		{endless(), api.MaxWork, api.ErrSteps},
		{rec(nat, zero, endless(), app(id, zero)), 1000, api.ErrSteps}, // what comes first has no normal form
	} {
		mustEnd(t, strconv.Itoa(i), q.t, q.steps, q.want)
	}
}

// P4.3: as many steps as there may be.
func TestMostSteps(t *testing.T) {
	// Each turn of a recursion is three steps and those of its body, and one more ends it.
	turns := func(n int, base, body api.Term) api.Term { return rec(nat, base, lam(nat, lam(nat, body)), num(n)) }
	most := turns(15, v(3), turns(45, v(0), turns(31, v(0), v(0))))
	must(t, "steps", 15*(3+1+45*(3+1+31*3))+1, api.MaxWork)
	mustNormal(t, "most", most, v(3), api.MaxWork)
	mustEnd(t, "more", app(id, most), api.MaxWork, api.ErrSteps)
}

// P4.3: the whole term counts in each step, however large it was before.
func TestPeak(t *testing.T) {
	for i, x := range []api.Term{filling, app(times, num(3), num(4)), app(sum, numbers(2, 0, 3)), first(app(double, app(plus, num(3), num(9)))), pair(app(plus, num(9), num(9)), first(pair(zero, num(40))))} {
		peak, last := 0, x
		for more := true; more; {
			size, _ := terms.Size(last)
			peak = max(peak, size)
			last, more, _ = reduce.Step(last)
		}
		got, n, err := reduce.Normal(above(api.MaxTerm-peak, x), api.MaxWork)
		mustTerm(t, strconv.Itoa(i)+": fits", got, n, err, above(api.MaxTerm-peak, last), n, api.OK)
		mustEnd(t, strconv.Itoa(i)+": does not fit", above(api.MaxTerm-peak+1, x), api.MaxWork, api.ErrSize)
	}
}

// P4.3: what has an Index that is too great may be the normal form, but there is no step from it.
func TestFartherOnTheWay(t *testing.T) {
	lifting := app(lam(nat, lam(nat, v(1))), v(farthest))
	farther := lam(nat, v(farthest+1))
	mustNormal(t, "normal", lifting, farther, 1)
	mustNormal(t, "not the last step", pair(app(id, zero), lifting), pair(zero, farther), 2)
	mustEnd(t, "another step", pair(lifting, app(id, zero)), 2, api.ErrRange)
	mustEnd(t, "another step that would be too large", pair(lifting, swelling), 2, api.ErrRange)
	mustEnd(t, "another step of it", app(lifting, zero), 2, api.ErrRange)
	mustEnd(t, "no step left", pair(lifting, app(id, zero)), 1, api.ErrSteps)
	must(t, "match", reduce.Match(lifting, farther, 1), api.ErrRange)
	must(t, "match of both", reduce.Match(lifting, app(id, lifting), 2), api.OK)
}

// P4.3: Match, and its errors in their order.
func TestMatch(t *testing.T) {
	two := app(lam(nat, succ(v(0))), num(1))
	for i, q := range []struct {
		a, b  api.Term
		steps int
		want  api.Errno
	}{
		{bad, node(-1), -1, api.ErrForm},
		{huge, bad, -1, api.ErrSize},
		{bad, huge, -1, api.ErrForm},
		{bad, bad, 5, api.ErrForm},
		{huge, huge, 5, api.ErrSize},
		{swelling, bad, 1, api.ErrForm},
		{distant, huge, -1, api.ErrSize},
		{two, two, -1, api.OK},
		{two, deep(two), api.MaxWork + 1, api.OK},
		{endless(), endless(), 0, api.OK},
		{distant, distant, 0, api.OK},
		{swelling, swelling, 5, api.OK},
		{num(4095), num(4095), 0, api.OK},
		{two, num(2), -1, api.ErrRange},
		{two, num(2), api.MaxWork + 1, api.ErrRange},
		{v(0), v(1), -1, api.ErrRange},
		{distant, zero, 5, api.ErrRange},
		{zero, distant, 5, api.ErrRange},
		{swelling, distant, 5, api.ErrSize},
		{distant, swelling, 5, api.ErrRange},
		{endless(), distant, 5, api.ErrSteps},
		{swelling, endless(), 5, api.ErrSize},
		{endless(), swelling, 5, api.ErrSteps},
		{zero, swelling, 5, api.ErrSize},
		{zero, endless(), 5, api.ErrSteps},
		{two, num(2), 0, api.ErrSteps},
		{num(2), two, 0, api.ErrSteps},
		{two, num(3), 0, api.ErrSteps},
		{two, num(2), 1, api.OK},
		{num(2), two, 1, api.OK},
		{app(plus, num(1), num(1)), app(id, two), 6, api.OK}, // as many for each
		{app(plus, num(1), num(1)), app(id, two), 5, api.ErrSteps},
		{app(plus, num(2), num(3)), app(plus, num(3), num(2)), api.MaxSteps, api.OK},
		{app(plus, v(0), v(1)), app(plus, v(1), v(0)), api.MaxSteps, api.ErrMatch},
		{two, num(3), 1, api.ErrMatch},
		{v(0), v(1), 0, api.ErrMatch},
		{lam(nat, v(0)), lam(list, v(0)), 0, api.ErrMatch},
		{num(4094), num(4095), api.MaxWork, api.ErrMatch},
		{lam(nat, app(v(1), v(0))), v(0), api.MaxWork, api.ErrMatch}, // functions are not compared by what they do
	} {
		must(t, strconv.Itoa(i), reduce.Match(q.a, q.b, q.steps), q.want)
	}
}

// places returns the ways from the root to all nodes of a term, a node before its Args, these from left to right.
func places(t api.Term) [][]int {
	l := [][]int{nil}
	for i, a := range t.Args {
		for _, way := range places(a) {
			l = append(l, append([]int{i}, way...))
		}
	}
	return l
}

// at returns what stands at a place of a term.
func at(t api.Term, way []int) api.Term {
	for _, i := range way {
		t = t.Args[i]
	}
	return t
}

// replaced returns a copy of a term with something else at a place.
func replaced(t api.Term, way []int, part api.Term) api.Term {
	if len(way) == 0 {
		return part
	}
	t = deep(t)
	t.Args[way[0]] = replaced(t.Args[way[0]], way[1:], part)
	return t
}

// line returns what the line of the chapter's table for a term says that it becomes, and whether there is one.
func line(t api.Term) (api.Term, bool) {
	kinds := []int{t.Kind}
	for _, a := range t.Args {
		kinds = append(kinds, a.Kind)
	}
	switch last := kinds[len(kinds)-1]; {
	case t.Kind == api.TermApp && kinds[1] == api.TermLam:
		to, _ := subst.Put(t.Args[0].Args[0], 0, t.Args[1])
		return to, true
	case t.Kind == api.TermRec && last == api.TermZero, t.Kind == api.TermFold && last == api.TermNil:
		return t.Args[0], true
	case t.Kind == api.TermRec && last == api.TermSucc:
		b, f, n := t.Args[0], t.Args[1], t.Args[2].Args[0]
		return app(f, n, rec(t.Type, b, f, n)), true
	case t.Kind == api.TermFold && last == api.TermCons:
		b, f, h, l := t.Args[0], t.Args[1], t.Args[2].Args[0], t.Args[2].Args[1]
		return app(f, h, l, fold(t.Type, b, f, l)), true
	case t.Kind == api.TermFst && last == api.TermPair:
		return t.Args[0].Args[0], true
	case t.Kind == api.TermSnd && last == api.TermPair:
		return t.Args[0].Args[1], true
	}
	return api.Term{}, false
}

// stepped is Step of a valid term, as the chapter describes it: the first place with a redex.
func stepped(t api.Term) (api.Term, bool) {
	for _, way := range places(t) {
		if to, is := line(at(t, way)); is {
			return replaced(t, way, to), true
		}
	}
	return t, false
}

// P4.1 to P4.3: Contract, Step and Normal of many terms, with and without a type, are what the chapter's definitions say, step by step.
func TestMany(t *testing.T) {
	const most = 12
	c := samples.Choices{}
	all := samples.Small(4)
	for range 1500 {
		all = append(all, c.Mixed(2+c.Below(4)), c.OfType([]api.Type{nat, fun(nat, nat)}, c.Simple(), 2+c.Below(3)))
	}
	steps := 0
	for i, x := range all {
		last := x
		for n := range most {
			what := strconv.Itoa(i) + " after " + strconv.Itoa(n)
			to, is := line(last)
			found, err := reduce.Redex(last)
			must(t, what+": Redex", []any{found, err}, []any{is, api.OK})
			if is {
				got, err := reduce.Contract(last)
				mustTerm(t, what+": Contract", got, 0, err, to, 0, api.OK)
			}
			next, more := stepped(last)
			got, done, err := reduce.Step(last)
			mustTerm(t, what+": Step", got, done, err, next, more, api.OK)
			if !more {
				mustNormal(t, what+": Normal", x, last, n)
				break
			}
			mustEnd(t, what+": Normal", x, n, api.ErrSteps)
			last = next
			steps++
		}
	}
	must(t, "many steps", steps > 4000, true)
}

// typed returns terms that have types in a context, with their types.
func typed(context []api.Type, count, depth int) ([]api.Term, []api.Type) {
	c := samples.Choices{State: 1}
	var l []api.Term
	var of []api.Type
	for len(l) < count {
		s := c.Simple()
		x := c.OfType(context, s, depth)
		if _, err := terms.TypeOf(context, x); err != api.OK { // a part has too large a type
			continue
		}
		l, of = append(l, x), append(of, s)
	}
	return l, of
}

// The chapter's consequences: a step keeps the type of a term, and adds no free variables.
func TestStepsKeepTypes(t *testing.T) {
	context := []api.Type{nat, fun(nat, nat), list, fun(fun(nat, nat), list)}
	steps := 0
	l, of := typed(context, 800, 4)
	for i, x := range l {
		free, _ := subst.Uses(x)
		for range 100 {
			next, more, err := reduce.Step(x)
			if err == api.ErrSize || !more {
				break
			}
			steps++
			u, e := terms.TypeOf(context, next)
			must(t, strconv.Itoa(i)+": type", []any{types.Same(u, of[i]), err, e}, []any{true, api.OK, api.OK})
			now, _ := subst.Uses(next)
			for _, n := range now {
				must(t, strconv.Itoa(i)+": free variable", slices.Contains(free, n), true)
			}
			x, free = next, now
		}
	}
	must(t, "many steps", steps > 2000, true)
}

// The chapter's consequences: a term with a type has one normal form, whichever redexes are reduced first.
func TestOneNormalForm(t *testing.T) {
	c := samples.Choices{State: 2}
	found := 0
	l, _ := typed([]api.Type{nat, fun(nat, nat)}, 500, 4)
	l = append(l, app(times, num(2), num(2)), app(sum, numbers(2, 1)), lam(nat, app(times, num(2), app(plus, v(0), num(1)))))
	for i, x := range l {
		want, _, err := reduce.Normal(x, api.MaxSteps)
		must(t, strconv.Itoa(i)+": normal form", err, api.OK)
		last := x
		for range 300 {
			var inner [][]int
			for _, way := range places(last) {
				if is, _ := reduce.Redex(at(last, way)); is {
					inner = append(inner, way)
				}
			}
			if len(inner) == 0 {
				found++
				must(t, strconv.Itoa(i)+": the same normal form", terms.Same(last, want), true)
				break
			}
			way := inner[c.Below(len(inner))]
			to, err := reduce.Contract(at(last, way))
			must(t, strconv.Itoa(i)+": Contract", err, api.OK)
			last = replaced(last, way, to)
		}
	}
	must(t, "many terms", found > 450, true)
}

// canonical reports whether a term is what the chapter says of a closed normal term of a type.
func canonical(t api.Term, of api.Type) bool {
	switch of.Kind {
	case api.TypeNat:
		return t.Kind == api.TermZero || t.Kind == api.TermSucc && canonical(t.Args[0], of)
	case api.TypeList:
		return t.Kind == api.TermNil || t.Kind == api.TermCons && canonical(t.Args[0], nat) && canonical(t.Args[1], of)
	case api.TypePair:
		return t.Kind == api.TermPair
	case api.TypeFun:
		return t.Kind == api.TermLam
	}
	return t.Kind == api.TermUnit
}

// The chapter's consequences: the closed normal terms.
func TestClosedNormal(t *testing.T) {
	l, of := typed(nil, 500, 4)
	for i, x := range l {
		got, _, err := reduce.Normal(x, api.MaxWork)
		must(t, strconv.Itoa(i), []any{canonical(got, of[i]), err}, []any{true, api.OK})
	}
}

// The chapter's example.
func TestExample(t *testing.T) {
	got, done, err := reduce.Step(app(lam(nat, succ(v(0))), zero))
	mustTerm(t, "step", got, done, err, succ(zero), true, api.OK)
	got, n, err := reduce.Normal(app(lam(nat, succ(v(0))), zero), 1)
	mustTerm(t, "normal", got, n, err, succ(zero), 1, api.OK)
}

// R1: trees that are no terms, at any depth, have the error of terms.Check in every call.
func TestNoTerms(t *testing.T) {
	for i, x := range []api.Term{
		{}, node(14), v(-1), lam(api.Type{}, v(0)), node(api.TermApp, id), node(api.TermApp), node(api.TermFst), node(api.TermRec, zero, zero, zero), rec(nat, zero, zero), fold(nat), rec(api.Type{}, zero, zero, zero),
		app(lam(nat, node(api.TermSucc)), zero), first(node(api.TermPair, zero)), pair(full(12), api.Term{Kind: api.TermZero, Index: 2}), app(id, bad), succ(lam(nat, app(id, v(-1)))),
		huge, full(12), full(17), above(1<<16, app(id, zero)), above(1<<16, v(-1)), app(id, above(1<<16, zero)), node(api.TermPair, slices.Repeat([]api.Term{zero}, 1<<16)...),
	} {
		want := terms.Check(x)
		must(t, strconv.Itoa(i)+": there is an error", want == api.ErrForm || want == api.ErrSize, true)
		is, e1 := reduce.Redex(x)
		a, e2 := reduce.Contract(x)
		b, done, e3 := reduce.Step(x)
		c, n, e4 := reduce.Normal(x, -1)
		must(t, strconv.Itoa(i)+": errors", []api.Errno{e1, e2, e3, e4, reduce.Match(x, bad, -1), reduce.Match(zero, x, -1)}, slices.Repeat([]api.Errno{want}, 6))
		must(t, strconv.Itoa(i)+": results", []any{is, a, b, done, c, n}, []any{false, api.Term{}, api.Term{}, false, api.Term{}, 0})
	}
}

// R2: arguments stay as they were, and so does what lies behind them in their memory.
func TestArgumentsStay(t *testing.T) {
	marked := func(t api.Term) api.Term {
		t.Args = append(t.Args, node(77))[:len(t.Args)]
		return t
	}
	redex := marked(app(marked(lam(nat, marked(pair(v(0), app(id, v(0)))))), marked(succ(zero))))
	over := marked(cons(redex, none))
	x := marked(pair(v(0), marked(fold(nat, zero, lam(nat, lam(list, id)), over))))
	was := deep(x)

	for _, y := range []api.Term{x, x.Args[1], redex} {
		reduce.Redex(y)
		reduce.Contract(y)
		reduce.Step(y)
		reduce.Normal(y, 100)
		reduce.Match(y, redex, 100)
	}

	must(t, "argument", deep(x), was)
	for i, y := range []api.Term{x, x.Args[1], over, redex, redex.Args[0], redex.Args[0].Args[0], redex.Args[1]} {
		must(t, strconv.Itoa(i)+": behind it", y.Args[:len(y.Args)+1][len(y.Args)], node(77))
	}
}
