package machine_test

import (
	"fmt"
	"runtime"
	"slices"
	"strconv"
	"testing"

	"proofprograms/api"
	"proofprograms/machine"
	"proofprograms/samples"
	"proofprograms/value"
)

// The calls have exactly these signatures.
var (
	_ func(t api.Term, work int) (api.Value, int, api.Errno)                = machine.Eval
	_ func(f api.Term, l []api.Value, work int) (api.Value, int, api.Errno) = machine.Call
)

// What the tests are made of.
var (
	nat, list, unit  = samples.Nat, samples.List, samples.Unit
	both, fun, wide  = samples.Both, samples.Fun, samples.Wide
	zero, none, only = samples.Zero, samples.None, samples.Only

	node, v, lam, app = samples.Node, samples.Var, samples.Lam, samples.App
	succ, cons, pair  = samples.Succ, samples.Cons, samples.Pair
	rec, fold, above  = samples.Rec, samples.Fold, samples.Above
	number, numbers   = samples.Number, samples.Numbers

	num, nums, two, single = samples.Num, samples.Nums, samples.Two, samples.Single
)

const (
	most     = api.MaxWork
	greatest = 1<<63 - 1
	least    = -1 << 63
)

// first and second return a part of a pair.
func first(p api.Term) api.Term  { return node(api.TermFst, p) }
func second(p api.Term) api.Term { return node(api.TermSnd, p) }

// lams returns a function of some arguments.
func lams(body api.Term, l ...api.Type) api.Term {
	for _, t := range slices.Backward(l) {
		body = lam(t, body)
	}
	return body
}

// let returns a term with a name, Var 0, for another one.
func let(t api.Type, x, body api.Term) api.Term { return app(lam(t, body), x) }

// Some closed terms.
var (
	id     = lam(nat, v(0))
	plus   = value.Plus()
	times  = value.Times()
	length = lam(list, fold(nat, zero, lams(succ(v(0)), nat, list, nat), v(0)))
	same   = lams(cons(v(2), v(0)), nat, list, list) // a step of Fold that builds the list again
)

// outcome is all that a call returns.
type outcome struct {
	x    api.Value
	work int
	err  api.Errno
}

// evaluated and called are the outcomes of the two calls.
func evaluated(t api.Term, work int) outcome {
	x, n, err := machine.Eval(t, work)
	return outcome{x, n, err}
}

func called(f api.Term, l []api.Value, work int) outcome {
	x, n, err := machine.Call(f, l, work)
	return outcome{x, n, err}
}

// must fails the test if a call did not return this.
func must(t *testing.T, what string, got, want outcome) {
	t.Helper()
	if got.err != want.err || got.work != want.work || !value.Same(got.x, want.x) {
		t.Errorf("%s: got %.300s, want %.300s", what, fmt.Sprintf("%+v", got), fmt.Sprintf("%+v", want))
	}
}

// mustEval fails the test if a term has not this value after exactly so much work, whatever the limit is.
func mustEval(t *testing.T, what string, x api.Term, want api.Value, work int) {
	t.Helper()
	mustCall(t, what, x, nil, want, work)
	for _, limit := range []int{work, most} {
		must(t, what+" with Eval", evaluated(x, limit), outcome{want, work, api.OK})
	}
	must(t, what+" with Eval and one unit less", evaluated(x, work-1), outcome{err: api.ErrSteps})
}

// mustCall fails the test if a function has not this value after exactly so much work, whatever the limit is.
func mustCall(t *testing.T, what string, f api.Term, l []api.Value, want api.Value, work int) {
	t.Helper()
	for _, limit := range []int{work, min(work+1, most), most} {
		must(t, what+" with "+strconv.Itoa(limit), called(f, l, limit), outcome{want, work, api.OK})
	}
	for _, limit := range []int{work - 1, work - 2, work - 3, work / 2, 0} {
		if limit >= 0 {
			must(t, what+" with "+strconv.Itoa(limit), called(f, l, limit), outcome{err: api.ErrSteps})
		}
	}
}

// P6.1: the value and the work of terms of each kind.
func TestEval(t *testing.T) {
	for i, q := range []struct {
		t    api.Term
		want api.Value
		work int
	}{
		{zero, num(0), 1},
		{none, nums(), 1},
		{only, single, 1},
		{succ(succ(zero)), num(2), 3},
		{above(4095, zero), num(4095), 4096},
		{cons(zero, none), nums(0), 3},
		{cons(number(2), cons(number(1), none)), nums(2, 1), 8},
		{pair(zero, none), two(num(0), nums()), 3},
		{pair(pair(only, number(1)), numbers(0)), two(two(single, num(1)), nums(0)), 8},
		{first(pair(number(1), none)), num(1), 5},
		{second(pair(number(1), none)), nums(), 5},
		{first(pair(zero, id)), num(0), 4},
		{second(first(pair(pair(zero, number(3)), only))), num(3), 10},
		{api.Term{Kind: api.TermPair, Args: []api.Term{zero, {Kind: api.TermZero, Args: []api.Term{}}}}, two(num(0), num(0)), 3},
		// Calls: the function, the argument, and then the body.
		{app(id, zero), num(0), 4},
		{app(lam(nat, zero), number(5)), num(0), 9},
		{app(lam(nat, pair(v(0), v(0))), number(2)), two(num(2), num(2)), 8},
		{app(lams(v(1), nat, nat), number(1), zero), num(1), 8},
		{app(lams(v(0), nat, nat), number(1), zero), num(0), 8},
		{app(lams(pair(v(0), pair(v(1), v(2))), nat, list, unit), number(1), numbers(0), only), two(single, two(nums(0), num(1))), 17},
		{app(lam(fun(nat, nat), zero), lam(nat, app(times, number(99), v(0)))), num(0), 4},
		{app(lam(fun(nat, nat), app(v(0), app(v(0), zero))), lam(nat, succ(succ(v(0))))), num(4), 14},
		{app(plus, number(2), number(1)), num(3), 16},
		// Recursion: all three Args, and then two calls for each number.
		{rec(nat, number(5), lams(v(1), nat, nat), zero), num(5), 9},
		{rec(nat, number(5), lams(v(1), nat, nat), number(3)), num(2), 18},
		{rec(nat, number(5), lams(v(0), nat, nat), number(3)), num(5), 18},
		{rec(list, none, lams(cons(v(1), v(0)), nat, list), number(3)), nums(2, 1, 0), 19},
		{rec(nat, zero, app(lam(nat, lams(succ(v(0)), nat, nat)), zero), number(2)), num(2), 1 + 1 + 4 + 3 + 2*3},
		{rec(nat, zero, app(lam(nat, lams(succ(v(0)), nat, nat)), zero), zero), num(0), 1 + 1 + 4 + 1},
		{rec(nat, app(id, zero), lams(zero, nat, nat), number(1)), num(0), 1 + 4 + 1 + 2 + 2},
		{app(rec(fun(nat, nat), id, lams(succ(app(v(1), v(0))), nat, fun(nat, nat), nat), number(2)), number(3)), num(5), 24},
		// A step of a recursion that is no Lam by itself: what comes of the first call stays the same closure.
		{rec(nat, zero, lam(nat, let(nat, succ(v(0)), lam(nat, v(1)))), number(3)), num(3), 1 + 1 + 1 + 4 + 3*6},
		// Folds: all three Args, and then three calls for each element, the last one first.
		{fold(nat, number(4), lams(v(2), nat, list, nat), none), num(4), 8},
		{fold(nat, zero, lams(v(2), nat, list, nat), numbers(7, 8)), num(7), 29},
		{fold(list, none, same, numbers(3, 1, 2)), nums(3, 1, 2), 1 + 1 + 1 + 13 + 3*5},
		{fold(list, none, lams(cons(app(length, v(1)), v(0)), nat, list, list), numbers(7, 8, 9)), nums(2, 1, 0), 1 + 1 + 1 + 31 + 3*11 + 4*(0+1+2)},
		{fold(list, none, lams(v(1), nat, list, list), numbers(7, 8, 9)), nums(8, 9), 1 + 1 + 1 + 31 + 3*3},
		{fold(nat, zero, lams(app(plus, v(0), v(2)), nat, list, nat), numbers(1, 2)), num(3), 1 + 1 + 1 + 8 + 2*12 + 3*(2+1)},
		{fold(both(list, list), pair(none, none), lams(pair(v(1), first(v(0))), nat, list, both(list, list)), numbers(1, 2, 3)), two(nums(2, 3), nums(3)), 1 + 3 + 1 + 13 + 3*6},
	} {
		mustEval(t, strconv.Itoa(i), q.t, q.want, q.work)
	}
}

// P6.1: a closure keeps the values of its variables, whatever the variables are where it is called.
func TestClosures(t *testing.T) {
	constant := lams(v(1), nat, nat)
	for i, q := range []struct {
		t    api.Term
		want api.Value
	}{
		{app(lams(app(v(0), v(1)), nat, fun(nat, nat)), number(4), app(constant, number(9))), num(9)},
		{let(nat, number(1), let(fun(nat, nat), lam(nat, v(1)), let(nat, number(2), app(v(1), number(3))))), num(1)},
		{let(fun(nat, fun(nat, nat)), constant, app(app(lams(v(1), fun(nat, nat), fun(nat, nat)), app(v(0), number(5)), app(v(0), number(6))), zero)), num(5)},
		{let(fun(nat, fun(nat, nat)), constant, let(fun(nat, nat), app(v(0), number(5)), let(fun(nat, nat), app(v(1), number(6)), pair(app(v(0), zero), app(v(1), zero))))), two(num(6), num(5))},
		{let(nat, number(3), rec(list, none, lams(cons(v(2), v(0)), nat, list), v(0))), nums(3, 3, 3)},
		{let(nat, number(3), fold(list, none, lams(cons(v(3), v(0)), nat, list, list), numbers(1, 2))), nums(3, 3)},
		{first(app(rec(fun(nat, both(nat, nat)), lam(nat, pair(v(0), zero)), lams(app(v(1), succ(v(0))), nat, fun(nat, both(nat, nat)), nat), number(4)), number(2))), num(6)},
		{app(fold(fun(list, list), lam(list, v(0)), lams(app(v(1), cons(v(3), v(0))), nat, list, fun(list, list), list), numbers(1, 2, 3)), none), nums(3, 2, 1)},
		{let(list, numbers(1), pair(cons(number(2), v(0)), pair(cons(number(3), v(0)), v(0)))), two(nums(2, 1), two(nums(3, 1), nums(1)))},
	} {
		got := evaluated(q.t, most)
		must(t, strconv.Itoa(i), got, outcome{q.want, got.work, api.OK})
	}
}

// badTerms are terms that are not valid, or have no type without functions, with the error that Eval has for them.
func badTerms() map[string]struct {
	t   api.Term
	err api.Errno
} {
	type bad = struct {
		t   api.Term
		err api.Errno
	}
	return map[string]bad{
		"too many nodes":                    {above(4096, zero), api.ErrSize},
		"too many nodes, not closed":        {above(4096, v(0)), api.ErrSize},
		"too many nodes, without a type":    {app(samples.Full(12), zero), api.ErrSize},
		"2^16 levels":                       {above(1<<16, zero), api.ErrSize},
		"2^16 levels with a wrong node":     {above(1<<16, v(-1)), api.ErrForm},
		"a variable":                        {v(0), api.ErrScope},
		"a variable far away":               {v(greatest), api.ErrScope},
		"a variable beyond a Lam":           {app(lam(nat, v(1)), zero), api.ErrScope},
		"a variable behind a Lam":           {pair(app(id, zero), v(0)), api.ErrScope},
		"a variable where no call leads":    {first(pair(zero, lam(nat, v(1)))), api.ErrScope},
		"a variable in a step":              {rec(nat, zero, v(0), zero), api.ErrScope},
		"a variable before a wrong type":    {pair(v(0), app(zero, zero)), api.ErrScope},
		"a variable behind a wrong type":    {pair(app(zero, zero), v(0)), api.ErrType},
		"a number is called":                {app(zero, zero), api.ErrType},
		"another argument":                  {app(id, none), api.ErrType},
		"the number after a list":           {succ(none), api.ErrType},
		"a list with a list":                {cons(none, none), api.ErrType},
		"a list behind a number":            {cons(zero, zero), api.ErrType},
		"a part of a number":                {first(zero), api.ErrType},
		"another part of the unit":          {second(only), api.ErrType},
		"a recursion over a list":           {rec(nat, zero, lams(v(0), nat, nat), none), api.ErrType},
		"a recursion with one argument":     {rec(nat, zero, id, zero), api.ErrType},
		"a fold over a number":              {fold(nat, zero, lams(v(0), nat, list, nat), zero), api.ErrType},
		"a fold with two arguments":         {fold(nat, zero, lams(v(0), nat, nat), none), api.ErrType},
		"a wrong type where no call leads":  {app(lam(fun(nat, nat), zero), lam(nat, succ(none))), api.ErrType},
		"a type with too many nodes":        {lam(wide(31, nat), v(0)), api.ErrSize},
		"that type where no call leads":     {first(pair(zero, lam(wide(31, nat), v(0)))), api.ErrSize},
		"a pair with too many nodes":        {let(wide(31, nat), lams(zero, slices.Repeat([]api.Type{nat}, 31)...), first(pair(v(0), v(0)))), api.ErrSize},
		"a function":                        {id, api.ErrType},
		"a function of two":                 {plus, api.ErrType},
		"what a function leaves":            {app(plus, zero), api.ErrType},
		"a pair with a function":            {pair(zero, id), api.ErrType},
		"a pair with a function first":      {pair(pair(id, zero), zero), api.ErrType},
		"a function out of a pair":          {first(pair(id, zero)), api.ErrType},
		"a function out of a recursion":     {rec(fun(nat, nat), id, lams(v(0), nat, fun(nat, nat)), zero), api.ErrType},
		"a pair with a function from folds": {fold(both(nat, fun(nat, nat)), pair(zero, id), lams(v(0), nat, list, both(nat, fun(nat, nat))), none), api.ErrType},
	}
}

// far are numbers that are no permitted work.
var far = []int{-1, -2, least, most + 1, most + 2, 1 << 32, 1<<32 + 1, greatest}

// P6.1: the errors of Eval that come before the work, which come also where the work is out of its range, or used up.
func TestEvalErrors(t *testing.T) {
	for name, q := range badTerms() {
		for _, work := range append([]int{0, 1, most}, far...) {
			must(t, fmt.Sprint(name, " with ", work), evaluated(q.t, work), outcome{err: q.err})
		}
	}
}

// P6.1 and P6.2: a node that is not as it should be, at any place of a term, is the first error.
func TestForm(t *testing.T) {
	for i, bad := range samples.WrongTerms() {
		for name, x := range map[string]api.Term{
			"at the root":             bad,
			"body":                    lam(nat, bad),
			"body that is not called": first(pair(zero, lam(nat, bad))),
			"first":                   pair(bad, zero),
			"second":                  app(zero, bad),
			"third":                   rec(nat, zero, v(0), bad),
			"middle":                  fold(nat, zero, bad, none),
			"below, to the right":     samples.Right(20, bad),
			"below, to the left":      samples.Left(20, bad),
			"behind too many nodes":   pair(samples.Full(12), bad),
			"below too many nodes":    samples.Right(5000, bad),
			"below a variable":        pair(v(7), bad),
		} {
			what := strconv.Itoa(i) + " " + name
			must(t, what, evaluated(x, most), outcome{err: api.ErrForm})
			must(t, what+" without work", evaluated(x, -1), outcome{err: api.ErrForm})
			must(t, what+" called", called(x, []api.Value{num(-1)}, greatest), outcome{err: api.ErrForm})
		}
	}
}

// P6.1 and P6.2: work out of its range, before ErrSteps.
func TestWorkRange(t *testing.T) {
	for _, work := range far {
		what := strconv.Itoa(work)
		must(t, what, evaluated(zero, work), outcome{err: api.ErrRange})
		must(t, what+" too little", evaluated(number(4), work), outcome{err: api.ErrRange})
		must(t, what+" for very much", evaluated(app(times, number(999), number(999)), work), outcome{err: api.ErrRange})
		must(t, what+" called", called(id, []api.Value{num(1)}, work), outcome{err: api.ErrRange})
		must(t, what+" called with none", called(zero, nil, work), outcome{err: api.ErrRange})
	}
	must(t, "none", evaluated(zero, 0), outcome{err: api.ErrSteps})
	must(t, "none for a call", called(id, []api.Value{num(1)}, 0), outcome{err: api.ErrSteps})
	must(t, "all", evaluated(zero, most), outcome{num(0), 1, api.OK})
}

// Functions that take a known work: 5 + 2*n units for a number n, or one more, and 5 + 3*n for a list with n elements.
var (
	less   = lam(nat, rec(nat, zero, lams(v(0), nat, nat), v(0)))
	over   = lam(nat, succ(rec(nat, zero, lams(v(0), nat, nat), v(0))))
	rounds = lam(list, fold(nat, zero, lams(v(0), nat, list, nat), v(0)))
)

// P6.1 and P6.2: just as much work as is permitted, and one unit more.
func TestMostWork(t *testing.T) {
	must(t, "as much as may be", called(over, []api.Value{num(32765)}, most), outcome{num(1), most, api.OK})
	must(t, "that with one unit less", called(over, []api.Value{num(32765)}, most-1), outcome{err: api.ErrSteps})
	must(t, "one unit less", called(less, []api.Value{num(32765)}, most), outcome{num(0), most - 1, api.OK})
	must(t, "one unit more", called(less, []api.Value{num(32766)}, most), outcome{err: api.ErrSteps})
	must(t, "two units more", called(over, []api.Value{num(32766)}, most), outcome{err: api.ErrSteps})
	must(t, "elements", called(rounds, []api.Value{nums(make([]int, 21843)...)}, most), outcome{num(0), most - 2, api.OK})
	must(t, "one element more", called(rounds, []api.Value{nums(make([]int, 21844)...)}, most), outcome{err: api.ErrSteps})
	for n := range 30 {
		mustCall(t, fmt.Sprint(n, " elements"), rounds, []api.Value{nums(make([]int, n)...)}, num(0), 5+3*n)
		mustCall(t, fmt.Sprint("up to ", n), less, []api.Value{num(n)}, num(0), 5+2*n)
	}
	must(t, "a large product", evaluated(app(times, number(300), number(300)), most), outcome{err: api.ErrSteps})
	got := evaluated(app(times, number(64), number(64)), most)
	must(t, "a product", got, outcome{num(4096), got.work, api.OK})
}

// P6.2: the value and the work of calls.
func TestCall(t *testing.T) {
	swap := lam(both(nat, list), pair(second(v(0)), first(v(0))))
	pairs := both(both(nat, list), unit)
	for i, q := range []struct {
		f    api.Term
		l    []api.Value
		want api.Value
		work int
	}{
		{number(2), nil, num(2), 3},
		{number(2), []api.Value{}, num(2), 3},
		{app(id, number(2)), make([]api.Value, 0, 3), num(2), 6},
		{id, []api.Value{num(0)}, num(0), 2},
		{id, []api.Value{{Kind: api.ValueNum, Num: 7, List: []int{}, Args: []api.Value{}}}, num(7), 2},
		{lam(nat, succ(v(0))), []api.Value{num(7)}, num(8), 3},
		{lam(list, v(0)), []api.Value{nums()}, nums(), 2},
		{lam(list, v(0)), []api.Value{{Kind: api.ValueList, List: []int{}}}, nums(), 2},
		{lam(list, v(0)), []api.Value{nums(3, 1, 2)}, nums(3, 1, 2), 2},
		{lam(list, cons(zero, v(0))), []api.Value{nums(3, 1, 2)}, nums(0, 3, 1, 2), 4},
		{lam(unit, v(0)), []api.Value{single}, single, 2},
		{lam(pairs, v(0)), []api.Value{two(two(num(1), nums(2)), single)}, two(two(num(1), nums(2)), single), 2},
		{lam(pairs, second(first(v(0)))), []api.Value{two(two(num(1), nums(2)), single)}, nums(2), 4},
		{swap, []api.Value{two(num(3), nums(1))}, two(nums(1), num(3)), 6},
		{lams(v(1), nat, list), []api.Value{num(1), nums(2)}, num(1), 3},
		{lams(v(0), nat, list), []api.Value{num(1), nums(2)}, nums(2), 3},
		{lams(pair(v(2), pair(v(1), v(0))), nat, nat, nat), []api.Value{num(1), num(2), num(3)}, two(num(1), two(num(2), num(3))), 8},
		{app(lams(pair(v(1), v(0)), nat, nat), number(4)), []api.Value{num(5)}, two(num(4), num(5)), 11},
		{lam(nat, let(nat, succ(v(0)), lam(nat, pair(v(0), v(1))))), []api.Value{num(4), num(9)}, two(num(9), num(5)), 9},
		{plus, []api.Value{num(2), num(1)}, num(3), 9},
		{plus, []api.Value{num(2), num(0)}, num(2), 6},
		{value.Pred(), []api.Value{num(7)}, num(6), 5 + 2*7},
		{length, []api.Value{nums(5, 0, 5)}, num(3), 5 + 4*3},
		{lam(list, fold(list, none, same, v(0))), []api.Value{nums(4, 9, 1)}, nums(4, 9, 1), 5 + 5*3},
		{first(pair(id, zero)), []api.Value{num(3)}, num(3), 5},
		{rec(fun(nat, nat), id, lams(succ(app(v(1), v(0))), nat, fun(nat, nat), nat), number(2)), []api.Value{num(3)}, num(5), 1 + 1 + 1 + 3 + 2*2 + 2*4 + 1},
		{lams(only, slices.Repeat([]api.Type{nat}, 31)...), slices.Repeat([]api.Value{num(1)}, 31), single, 32},
		{lam(nat, succ(v(0))), []api.Value{num(1<<62 - 1)}, num(1 << 62), 3},
		{lam(nat, succ(succ(v(0)))), []api.Value{num(1 << 62)}, num(1<<62 + 2), 4},
		{lam(list, cons(zero, v(0))), []api.Value{nums(1<<62, 5)}, nums(0, 1<<62, 5), 4},
	} {
		mustCall(t, strconv.Itoa(i), q.f, q.l, q.want, q.work)
	}
}

// P6.2: each small value is what the identity returns for it.
func TestCallIdentity(t *testing.T) {
	for _, x := range samples.Few(7) {
		u, err := value.TypeOf(x)
		if err != api.OK {
			t.Fatalf("%+v: error %d", x, err)
		}
		must(t, fmt.Sprint(x), called(lam(u, v(0)), []api.Value{x}, most), outcome{x, 2, api.OK})
		must(t, fmt.Sprint(x, " with a unit less"), called(lam(u, v(0)), []api.Value{x}, 1), outcome{err: api.ErrSteps})
	}
}

// mixed returns a function of a number, a list and a pair.
func mixed(body api.Term) api.Term { return lams(body, nat, list, both(nat, unit)) }

// P6.2: the errors of Call that come before the work, in their order, value by value.
func TestCallErrors(t *testing.T) {
	bad, large, deep := num(-1), samples.Num(0), single
	for range 32 {
		large, deep = two(large, nums(1)), two(single, deep)
	}
	good := two(num(1), single)
	for i, q := range []struct {
		f   api.Term
		l   []api.Value
		err api.Errno
	}{
		// Of f, before all of the values.
		{api.Term{}, nil, api.ErrForm},
		{lam(nat, node(api.TermSucc)), []api.Value{bad}, api.ErrForm},
		{above(4096, zero), []api.Value{bad}, api.ErrSize},
		{v(0), []api.Value{bad}, api.ErrScope},
		{lam(nat, v(1)), []api.Value{nums()}, api.ErrScope},
		{lam(nat, app(v(0), v(0))), []api.Value{bad}, api.ErrType},
		{lam(wide(31, nat), v(0)), []api.Value{bad}, api.ErrSize},
		// Of the values, the first one that has an error.
		{id, []api.Value{bad}, api.ErrForm},
		{id, []api.Value{{}}, api.ErrForm},
		{id, []api.Value{large}, api.ErrSize},
		{id, []api.Value{nums()}, api.ErrType},
		{id, []api.Value{single}, api.ErrType},
		{id, []api.Value{two(num(0), num(0))}, api.ErrType},
		{lam(list, v(0)), []api.Value{num(0)}, api.ErrType},
		{lam(unit, v(0)), []api.Value{num(0)}, api.ErrType},
		{lam(both(nat, list), v(0)), []api.Value{two(nums(), num(0))}, api.ErrType},
		{lam(both(nat, list), v(0)), []api.Value{two(num(0), nums(1, -1))}, api.ErrForm},
		{lam(fun(nat, nat), zero), []api.Value{num(0)}, api.ErrType},
		{mixed(v(1)), []api.Value{num(1), nums(), two(num(1), bad)}, api.ErrForm},
		{mixed(v(1)), []api.Value{num(1), num(1), bad}, api.ErrType},
		{mixed(v(1)), []api.Value{num(1), bad, num(1)}, api.ErrForm},
		{mixed(v(1)), []api.Value{nums(), bad, good}, api.ErrType},
		{mixed(v(1)), []api.Value{num(1), large, bad}, api.ErrSize},
		{mixed(v(1)), []api.Value{num(1), nums(), large}, api.ErrSize},
		{mixed(v(1)), []api.Value{num(1), nums(), deep}, api.ErrSize},
		{mixed(v(1)), []api.Value{num(1), deep, nums(-1)}, api.ErrSize},
		// Too many values: the one that is too much is checked first.
		{zero, []api.Value{num(0)}, api.ErrType},
		{zero, []api.Value{bad}, api.ErrForm},
		{zero, []api.Value{large}, api.ErrSize},
		{zero, []api.Value{num(0), bad}, api.ErrType},
		{pair(id, id), []api.Value{num(0)}, api.ErrType},
		{mixed(v(1)), []api.Value{num(1), nums(), good, num(0)}, api.ErrType},
		{mixed(v(1)), []api.Value{num(1), nums(), good, bad}, api.ErrForm},
		{mixed(v(1)), []api.Value{num(1), nums(), good, num(0), bad}, api.ErrType},
		{mixed(v(1)), slices.Repeat([]api.Value{num(1)}, 1<<16), api.ErrType},
		// Too few values, or a function in what comes of all.
		{id, nil, api.ErrType},
		{plus, nil, api.ErrType},
		{plus, []api.Value{num(1)}, api.ErrType},
		{plus, []api.Value{bad}, api.ErrForm},
		{mixed(v(1)), []api.Value{num(1), nums()}, api.ErrType},
		{mixed(v(1)), []api.Value{num(1), bad}, api.ErrForm},
		{mixed(lam(nat, v(0))), []api.Value{num(1), nums(), good}, api.ErrType},
		{mixed(pair(zero, id)), []api.Value{num(1), nums(), good}, api.ErrType},
		{mixed(pair(pair(v(0), id), zero)), []api.Value{num(1), nums(), good}, api.ErrType},
		{pair(zero, id), nil, api.ErrType},
	} {
		for _, work := range append([]int{0, most}, far...) {
			must(t, fmt.Sprint(i, " with ", work), called(q.f, q.l, work), outcome{err: q.err})
		}
	}
	for name, q := range badTerms() {
		must(t, name, called(q.t, nil, most), outcome{err: q.err})
	}
}

// P6.2: a node of a value that is not as it should be, at any place, is the first error of that value.
func TestCallForm(t *testing.T) {
	nest := func(n int, x api.Value) api.Value {
		for range n {
			x = two(num(0), x)
		}
		return x
	}
	for i, bad := range samples.WrongValues() {
		for name, x := range map[string]api.Value{
			"at the root":          bad,
			"first":                two(bad, num(0)),
			"second":               two(num(0), bad),
			"below":                nest(20, bad),
			"below too many nodes": nest(5000, bad),
		} {
			what := strconv.Itoa(i) + " " + name
			must(t, what, called(id, []api.Value{x}, most), outcome{err: api.ErrForm})
			must(t, what+" as the second one", called(plus, []api.Value{num(1), x}, -1), outcome{err: api.ErrForm})
			must(t, what+" behind one of another type", called(plus, []api.Value{single, x}, -1), outcome{err: api.ErrType})
			must(t, what+" as one too many", called(id, []api.Value{num(1), x}, -1), outcome{err: api.ErrForm})
		}
	}
}

// R1: numbers and lists of any length, and calls within calls as deep as the work permits.
func TestLarge(t *testing.T) {
	long := make([]int, 1<<20)
	for i := range long {
		long[i] = i
	}
	longer := append([]int{3, 2, 1, 0}, long...)
	build := lams(rec(list, v(1), lams(cons(v(1), v(0)), nat, list), v(0)), list, nat)
	last := lam(list, fold(list, none, lams(v(1), nat, list, list), v(0)))
	must(t, "a long list", called(lam(list, v(0)), []api.Value{nums(long...)}, most), outcome{nums(long...), 2, api.OK})
	must(t, "more elements", called(build, []api.Value{nums(long...), num(4)}, most), outcome{nums(longer...), 22, api.OK})
	must(t, "a fold over a long list", called(last, []api.Value{nums(long...)}, most), outcome{err: api.ErrSteps})
	must(t, "a fold over a list that was made long", called(lams(app(last, app(build, v(1), v(0))), list, nat), []api.Value{nums(), num(15000)}, most), outcome{err: api.ErrSteps})
	got := called(build, []api.Value{nums(long...), num(16000)}, most)
	must(t, "many more elements", outcome{nums(got.x.List[16000:]...), len(got.x.List), got.err}, outcome{nums(long...), 16000 + 1<<20, api.OK})

	must(t, "rounds up to a large number", called(over, []api.Value{num(1 << 62)}, most), outcome{err: api.ErrSteps})
	must(t, "a sum with a large number", called(plus, []api.Value{num(1 << 62), num(3)}, most), outcome{num(1<<62 + 3), 15, api.OK})
	for _, n := range []int{1<<62 + 1, greatest - 1, greatest} {
		for _, f := range []api.Term{id, over, lam(nat, succ(v(0))), lam(nat, app(over, succ(v(0)))), lam(nat, cons(succ(v(0)), none)), plus} {
			machine.Call(f, []api.Value{num(n)}, most) // returns, whatever it is
			machine.Call(f, []api.Value{num(3), num(n)}, most)
		}
	}
}

// allocated returns how many bytes of memory the test has asked for.
func allocated() uint64 {
	var m runtime.MemStats
	runtime.ReadMemStats(&m)
	return m.TotalAlloc
}

// R1: calls within calls as deep as the work permits.
func TestDeep(t *testing.T) {
	deeper := lams(app(rec(fun(nat, nat), id, lams(succ(app(v(1), v(0))), nat, fun(nat, nat), nat), v(0)), zero), nat)
	must(t, "calls within calls", called(deeper, []api.Value{num(10920)}, most), outcome{num(10920), 8 + 6*10920, api.OK})
	must(t, "too many of them", called(deeper, []api.Value{num(1 << 20)}, most), outcome{err: api.ErrSteps})

	// Each function folds the list with the one before it as step, so that the folds are as deep in each other as there is work.
	folds := lams(fold(nat, zero, lams(app(v(4), v(3)), nat, list, nat), v(0)), nat, fun(list, nat), list)
	nested := lams(app(rec(fun(list, nat), lam(list, zero), folds, v(0)), v(1)), list, nat)
	must(t, "a fold in a fold", called(nested, []api.Value{nums(1, 2), num(2)}, most), outcome{num(0), 12 + 4 + 2*(5+4+2*(5+1)), api.OK})
	must(t, "folds within folds", called(nested, []api.Value{nums(7), num(4000)}, most), outcome{num(0), 8 + 2*4000 + 9*4000 + 1, api.OK})
	for _, n := range []int{2, 3, 100, 10922, 21845} {
		must(t, "too many folds within folds", called(nested, []api.Value{nums(make([]int, n)...), num(4000)}, most), outcome{err: api.ErrSteps})
	}
	long := nums(make([]int, 1<<20)...)
	before := allocated()
	must(t, "folds of a long list within folds", called(nested, []api.Value{long, num(300)}, most), outcome{err: api.ErrSteps})
	if bytes := allocated() - before; bytes > 1<<28 {
		t.Errorf("folds that there is no work for take %d bytes", bytes)
	}

	// A term as deep as may be, with variables that are far away.
	far := v(1360)
	for range 1360 {
		far = let(nat, v(0), far)
	}
	mustEval(t, "names", let(nat, number(5), far), num(5), 1+1+6+3*1360+1)
	copies := rec(nat, number(1), lams(far, nat, nat), zero)
	must(t, "names in a step", evaluated(let(nat, zero, copies), most), outcome{num(1), 1 + 1 + 1 + 1 + 2 + 1 + 1, api.OK})
}
