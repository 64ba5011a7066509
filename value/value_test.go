package value_test

import (
	"fmt"
	"reflect"
	"slices"
	"strconv"
	"testing"

	"proofprograms/api"
	"proofprograms/reduce"
	"proofprograms/samples"
	"proofprograms/terms"
	"proofprograms/types"
	"proofprograms/value"
)

// The calls have exactly these signatures.
var (
	_ func(v api.Value) api.Errno             = value.Check
	_ func(a, b api.Value) bool               = value.Same
	_ func(v api.Value) (api.Type, api.Errno) = value.TypeOf
	_ func(v api.Value) (api.Term, api.Errno) = value.Term
	_ func(t api.Term) (api.Value, api.Errno) = value.Read
	_ func(n int) (api.Term, api.Errno)       = value.Number
	_ func() api.Term                         = value.Pred
	_ func() api.Term                         = value.Plus
	_ func() api.Term                         = value.Times
	_ func() api.Term                         = value.Sub
	_ func() api.Term                         = value.Distance
)

// What the tests are made of.
var (
	nat, list, unit  = samples.Nat, samples.List, samples.Unit
	both, fun        = samples.Both, samples.Fun
	zero, none, only = samples.Zero, samples.None, samples.Only

	node, v, lam, app = samples.Node, samples.Var, samples.Lam, samples.App
	succ, cons, pair  = samples.Succ, samples.Cons, samples.Pair
	rec, fold, above  = samples.Rec, samples.Fold, samples.Above
	number, numbers   = samples.Number, samples.Numbers

	num, nums, two, single = samples.Num, samples.Nums, samples.Two, samples.Single
	plain, few, deep       = samples.Plain, samples.Few, samples.DeepValue
)

// greatest is the greatest number.
const greatest = 1<<63 - 1

// right returns n nodes ValuePair, nested in their second Args.
func right(n int, last api.Value) api.Value {
	for range n {
		last = two(num(0), last)
	}
	return last
}

// left returns n nodes ValuePair, nested in their first Args.
func left(n int, last api.Value) api.Value {
	for range n {
		last = two(last, single)
	}
	return last
}

// full returns a tree of ValuePair with 2^(depth+1) - 1 nodes, of which 2^depth are leaves.
func full(depth int, leaf api.Value) api.Value {
	if depth == 0 {
		return leaf
	}
	return two(full(depth-1, leaf), full(depth-1, leaf))
}

// must fails the test if what a call returned is not what it should be (reflect tells nil from empty slices apart: nil is the zero value).
func must(t *testing.T, what string, got, want any) {
	t.Helper()
	if !reflect.DeepEqual(got, want) {
		t.Errorf("%s: got %.300s, want %.300s", what, fmt.Sprintf("%+v", got), fmt.Sprintf("%+v", want))
	}
}

// errorOf returns what Check says of a tree, and fails if TypeOf or Term name another error first, or return anything else with an error.
func errorOf(t *testing.T, what string, x api.Value) api.Errno {
	t.Helper()
	err := value.Check(x)
	typ, e1 := value.TypeOf(x)
	trm, e2 := value.Term(x)
	must(t, what+": error of TypeOf", e1, err)
	if err != api.OK {
		must(t, what+": error of Term", e2, err)
		must(t, what+": results", []any{typ, trm}, []any{api.Type{}, api.Term{}})
	}
	return err
}

// P5.1: Check and TypeOf of values.
func TestValid(t *testing.T) {
	many := slices.Repeat([]int{greatest}, 1<<16)
	for _, q := range []struct {
		name string
		v    api.Value
		want api.Type
	}{
		{"0", num(0), nat},
		{"1", num(1), nat},
		{"the greatest number", num(greatest), nat},
		{"empty list", nums(), list},
		{"empty list as an empty slice", plain(api.ValueList, 0, []int{}), list},
		{"list", nums(2, 0, 1), list},
		{"list of one", nums(0), list},
		{"list of the greatest number", nums(greatest), list},
		{"elements of a list are no nodes", nums(many...), list},
		{"unit", single, unit},
		{"number with empty slices", api.Value{Kind: api.ValueNum, List: []int{}, Args: []api.Value{}}, nat},
		{"unit with empty slices", api.Value{Kind: api.ValueUnit, List: make([]int, 0, 2), Args: make([]api.Value, 0, 2)}, unit},
		{"list without Args as an empty slice", api.Value{Kind: api.ValueList, List: []int{1}, Args: []api.Value{}}, list},
		{"pair", two(num(1), nums(1)), both(nat, list)},
		{"pair with an empty slice", api.Value{Kind: api.ValuePair, List: []int{}, Args: []api.Value{single, num(0)}}, both(unit, nat)},
		{"parts on both sides", two(two(single, nums()), two(num(7), two(nums(1), single))), both(both(unit, list), both(nat, both(list, unit)))},
		{"three levels", full(2, num(3)), both(both(nat, nat), both(nat, nat))},
	} {
		must(t, q.name, errorOf(t, q.name, q.v), api.OK)
		got, _ := value.TypeOf(q.v)
		must(t, q.name+": type", got, q.want)
	}
	for name, x := range map[string]api.Value{
		"63 nodes to the right": right(31, nums(many...)),
		"63 nodes to the left":  left(31, num(greatest)),
		"63 nodes on all sides": full(5, nums()),
	} {
		must(t, name, errorOf(t, name, x), api.OK)
		u, _ := value.TypeOf(x)
		size, err := types.Size(u)
		must(t, name+": nodes of the type", []any{size, err}, []any{63, api.OK})
	}
}

// P5.1: a node that is not as it should be, at any place of a tree of any size, is the first error.
func TestForm(t *testing.T) {
	large := full(12, num(0))
	for i, bad := range samples.WrongValues() {
		for name, x := range map[string]api.Value{
			"at the root":             bad,
			"first":                   two(bad, num(0)),
			"second":                  two(num(0), bad),
			"below, to the right":     right(20, bad),
			"below, to the left":      left(20, bad),
			"on all sides":            full(3, bad),
			"behind too many nodes":   two(large, bad),
			"before too many nodes":   two(bad, large),
			"below too many nodes":    right(5000, bad),
			"below them, to the left": left(5000, bad),
		} {
			what := strconv.Itoa(i) + " " + name
			must(t, what, errorOf(t, what, x), api.ErrForm)
		}
	}
}

// P5.1: too many nodes, all of them as they should be.
func TestTooLarge(t *testing.T) {
	for name, x := range map[string]api.Value{
		"65 nodes to the right":   right(32, num(0)),
		"65 nodes to the left":    left(32, nums(1)),
		"127 nodes":               full(6, single),
		"half a million nodes":    full(18, nums()),
		"2^16 levels":             right(1<<16, single),
		"2^16 levels to the left": left(1<<16, num(greatest)),
	} {
		must(t, name, errorOf(t, name, x), api.ErrSize)
	}
	for name, x := range map[string]api.Value{
		"2^16 levels with a wrong node below":             right(1<<16, num(-1)),
		"2^16 levels to the left with a wrong node below": left(1<<16, nums(-1)),
	} {
		must(t, name, errorOf(t, name, x), api.ErrForm)
	}
}

// P5.1: Same, of values and of other trees.
func TestSame(t *testing.T) {
	for i, q := range []struct {
		a, b api.Value
		want bool
	}{
		{api.Value{}, api.Value{}, true},
		{api.Value{}, num(0), false},
		{num(0), num(0), true},
		{num(0), num(1), false},
		{num(-1), num(-1), true},
		{num(-1), num(1), false},
		{num(greatest), num(greatest), true},
		{num(0), nums(), false},
		{num(0), single, false},
		{nums(), single, false},
		{nums(), plain(api.ValueList, 0, []int{}), true},
		{plain(77, 0, nil), api.Value{Kind: 77, List: []int{}, Args: []api.Value{}}, true},
		{plain(77, 1, nil), plain(77, 0, nil), false},
		{plain(77, 0, []int{0}), plain(77, 0, nil), false},
		{plain(77, 0, nil, num(0)), plain(77, 0, nil), false},
		{plain(77, 0, nil, num(0)), plain(77, 0, nil, num(0), num(0)), false},
		{plain(77, 1, []int{2}, num(3), plain(-4, 5, nil)), plain(77, 1, []int{2}, num(3), plain(-4, 5, nil)), true},
		{plain(77, 1, []int{2}, num(3), plain(-4, 5, nil)), plain(77, 1, []int{2}, num(3), plain(-4, 6, nil)), false},
		{plain(77, 1, []int{2}, num(3), plain(-4, 5, nil)), plain(77, 1, []int{2}, num(2), plain(-4, 5, nil)), false},
		{nums(1), nums(1), true},
		{nums(1), nums(2), false},
		{nums(1), nums(1, 1), false},
		{nums(1, 2), nums(2, 1), false},
		{nums(1, 2, -3), nums(1, 2, -3), true},
		{nums(1, 2, 3), nums(1, 2, 4), false},
		{nums(0), nums(), false},
		{two(num(1), num(2)), two(num(1), num(2)), true},
		{two(num(1), num(2)), two(num(2), num(1)), false},
		{two(num(1), num(2)), two(num(1), num(3)), false},
		{two(nums(1), two(single, num(0))), two(nums(1), two(single, num(0))), true},
		{two(nums(1), two(single, num(0))), two(nums(1), two(num(0), single)), false},
		{two(two(num(1), num(2)), num(3)), two(num(1), two(num(2), num(3))), false},
		{right(1<<16, num(0)), right(1<<16, num(0)), true},
		{right(1<<16, num(0)), right(1<<16, num(1)), false},
		{right(1<<16, num(0)), right(1<<16-1, num(0)), false},
		{left(1<<16, nums()), left(1<<16, nums()), true},
		{left(1<<16, nums()), left(1<<16, nums(0)), false},
	} {
		what := strconv.Itoa(i)
		must(t, what, value.Same(q.a, q.b), q.want)
		must(t, what+" the other way round", value.Same(q.b, q.a), q.want)
	}
}

// meaning returns the term of a value as the chapter defines it.
func meaning(x api.Value) api.Term {
	switch x.Kind {
	case api.ValueNum:
		return number(x.Num)
	case api.ValueList:
		return numbers(x.List...)
	case api.ValuePair:
		return pair(meaning(x.Args[0]), meaning(x.Args[1]))
	}
	return only
}

// P5.1: of all small values each one is Same as itself alone.
func TestSameOfMany(t *testing.T) {
	l := few(6)
	must(t, "many values", len(l) > 100, true)
	for i, a := range l {
		for j, b := range l {
			if got, want := value.Same(deep(a), b), i == j; got != want {
				t.Errorf("%d and %d, %+v and %+v: got %v, want %v", i, j, a, b, got, want)
			}
		}
	}
}

// P5.2: Term.
func TestTerm(t *testing.T) {
	for i, q := range []struct {
		v    api.Value
		want api.Term
	}{
		{num(0), zero},
		{num(1), succ(zero)},
		{num(3), succ(succ(succ(zero)))},
		{nums(), none},
		{plain(api.ValueList, 0, []int{}), none},
		{nums(0), cons(zero, none)},
		{nums(2), cons(succ(succ(zero)), none)},
		{nums(1, 0, 2), cons(succ(zero), cons(zero, cons(succ(succ(zero)), none)))},
		{single, only},
		{two(num(1), nums()), pair(succ(zero), none)},
		{two(nums(0, 1), two(single, num(0))), pair(cons(zero, cons(succ(zero), none)), pair(only, zero))},
		{two(two(num(2), num(1)), single), pair(pair(succ(succ(zero)), succ(zero)), only)},
	} {
		got, err := value.Term(q.v)
		must(t, strconv.Itoa(i), []any{got, err}, []any{q.want, api.OK})
	}
}

// P5.2: Term at the limit of nodes: size is that of the term, or 0 if there are too many.
func TestTermSize(t *testing.T) {
	zeros := make([]int, 2048)
	with := func(l []int, n int) []int { return append(slices.Clone(l), n) }
	for i, q := range []struct {
		v    api.Value
		size int
	}{
		{num(4094), 4095},
		{num(4095), 4096},
		{num(4096), 0},
		{num(1 << 32), 0},
		{num(1<<32 + 1), 0},
		{num(greatest), 0},
		{nums(4092), 4095},
		{nums(4093), 4096},
		{nums(4094), 0},
		{nums(greatest), 0},
		{nums(zeros[:2047]...), 4095},
		{nums(with(zeros[:2046], 1)...), 4096},
		{nums(with(zeros[:2046], 2)...), 0},
		{nums(zeros...), 0},
		{nums(make([]int, 1<<16)...), 0},
		{nums(2000, 1000, 1087), 4094},
		{nums(2000, 1000, 1089), 4096},
		{nums(2000, 1000, 1090), 0},
		{two(num(2047), num(2046)), 4096},
		{two(num(2046), num(2047)), 4096},
		{two(num(2047), num(2047)), 0},
		{two(num(4093), single), 4096},
		{two(single, num(4094)), 0},
		{two(nums(4090), nums()), 4095},
		{two(nums(4091), nums()), 4096},
		{two(nums(), nums(4092)), 0},
		{full(5, num(126)), 4095},
		{two(full(4, num(126)), right(15, num(2017))), 4096},
		{two(full(4, num(126)), right(15, num(2018))), 0},
		{right(31, num(4033)), 4096},
		{right(31, num(4034)), 0},
		{left(31, num(4033)), 4096},
		{left(31, num(4034)), 0},
		{full(5, num(127)), 0},
		// Sums that are no ints.
		{two(num(greatest), num(greatest)), 0},
		{two(num(greatest-1), num(greatest)), 0},
		{nums(greatest, greatest), 0},
		{nums(greatest, greatest, 0), 0},
		{nums(slices.Repeat([]int{1 << 62}, 4)...), 0},
		{nums(slices.Repeat([]int{1<<62 - 2}, 4)...), 0},
		{nums(slices.Repeat([]int{greatest}, 1<<16)...), 0},
		{full(5, num(1<<59)), 0},
		{full(5, num(1<<59-1)), 0},
		{full(5, nums(greatest, greatest)), 0},
	} {
		want := api.OK
		if q.size == 0 {
			want = api.ErrSize
		}
		must(t, strconv.Itoa(i)+": Check", value.Check(q.v), api.OK)
		x, err := value.Term(q.v)
		must(t, strconv.Itoa(i)+": error", err, want)
		if want != api.OK {
			must(t, strconv.Itoa(i)+": no term", x, api.Term{})
			continue
		}
		size, err := terms.Size(x)
		must(t, strconv.Itoa(i)+": size", []any{size, err}, []any{q.size, api.OK})
		must(t, strconv.Itoa(i)+": the term", terms.Same(x, meaning(q.v)), true)
	}
	// The first error is that of Check, whatever the numbers are.
	for i, q := range []struct {
		v   api.Value
		err api.Errno
	}{
		{two(num(greatest), num(-1)), api.ErrForm},
		{two(nums(greatest, -1), num(4096)), api.ErrForm},
		{right(32, num(greatest)), api.ErrSize},
		{two(num(4096), right(40, plain(api.ValueUnit, 1, nil))), api.ErrForm},
	} {
		must(t, strconv.Itoa(i)+": error of Check", errorOf(t, strconv.Itoa(i), q.v), q.err)
	}
}

// P5.2: Read.
func TestRead(t *testing.T) {
	for i, q := range []struct {
		t    api.Term
		want api.Value
	}{
		{zero, num(0)},
		{above(5, zero), num(5)},
		{above(4095, zero), num(4095)},
		{none, nums()},
		{cons(zero, none), nums(0)},
		{cons(succ(zero), cons(zero, cons(above(3, zero), none))), nums(1, 0, 3)},
		{numbers(make([]int, 2047)...), nums(make([]int, 2047)...)},
		{numbers(4093), nums(4093)},
		{only, single},
		{pair(zero, none), two(num(0), nums())},
		{pair(pair(only, cons(zero, none)), pair(none, succ(zero))), two(two(single, nums(0)), two(nums(), num(1)))},
		{samples.Right(31, succ(zero)), right(31, num(1))},
		{samples.Full(5), full(5, num(0))},
		{api.Term{Kind: api.TermZero, Args: []api.Term{}}, num(0)},
		{api.Term{Kind: api.TermNil, Type: api.Type{Args: []api.Type{}}, Args: []api.Term{}}, nums()},
	} {
		got, err := value.Read(q.t)
		must(t, strconv.Itoa(i), []any{got, err}, []any{q.want, api.OK})
	}
}

// noValues returns valid terms that are the term of no value.
func noValues() []api.Term {
	step := lam(nat, lam(nat, v(0)))
	return []api.Term{
		v(0), v(7), lam(nat, zero), lam(nat, v(0)), app(lam(nat, v(0)), zero), app(lam(nat, none), zero), app(lam(nat, only), zero),
		rec(nat, zero, step, zero), rec(list, none, step, zero), fold(nat, zero, step, none), fold(list, none, step, none),
		node(api.TermFst, pair(zero, none)), node(api.TermSnd, pair(zero, none)), node(api.TermFst, zero),
		succ(none), succ(only), succ(pair(zero, zero)), succ(cons(zero, none)), succ(v(0)), above(9, v(0)), above(9, none),
		cons(none, none), cons(only, none), cons(pair(zero, zero), none), cons(v(0), none), cons(succ(v(0)), none), cons(succ(none), none), cons(cons(zero, none), none),
		cons(zero, zero), cons(zero, succ(zero)), cons(zero, only), cons(zero, pair(zero, none)), cons(zero, v(0)),
		cons(zero, cons(v(0), none)), cons(zero, cons(none, none)), cons(zero, cons(zero, zero)), cons(zero, app(lam(list, v(0)), none)),
	}
}

// mustNotRead fails the test if Read does not say of valid terms that they are the terms of no value.
func mustNotRead(t *testing.T, what string, places map[string]api.Term) {
	t.Helper()
	for place, x := range places {
		got, err := value.Read(x)
		must(t, what+" "+place, []any{terms.Check(x), got, err}, []any{api.OK, api.Value{}, api.ErrForm})
	}
}

// P5.2: what is the term of no value, at any place of a term.
func TestReadForm(t *testing.T) {
	large := samples.Full(6) // has too many nodes for a value
	for i, bad := range noValues() {
		mustNotRead(t, strconv.Itoa(i), map[string]api.Term{
			"at the root":             bad,
			"first":                   pair(bad, zero),
			"second":                  pair(none, bad),
			"below, to the right":     samples.Right(20, bad),
			"below, to the left":      samples.Left(20, bad),
			"behind too many nodes":   pair(large, bad),
			"before too many nodes":   pair(bad, large),
			"below too many nodes":    samples.Right(1000, bad),
			"below them, to the left": samples.Left(1000, bad),
		})
	}
	for i, bad := range append(noValues(), none, only, pair(zero, zero), cons(zero, none)) {
		mustNotRead(t, "no number "+strconv.Itoa(i), map[string]api.Term{
			"below Succ":       succ(bad),
			"below many":       above(30, bad),
			"head":             cons(bad, none),
			"next head":        cons(zero, cons(bad, none)),
			"below Succ there": cons(zero, cons(succ(bad), none)),
			"head in a pair":   pair(zero, cons(bad, none)),
		})
	}
	for i, bad := range append(noValues(), zero, succ(zero), only, pair(zero, none)) {
		mustNotRead(t, "no list "+strconv.Itoa(i), map[string]api.Term{
			"tail":                  cons(zero, bad),
			"next tail":             cons(succ(zero), cons(zero, bad)),
			"tail in a pair":        pair(cons(zero, bad), zero),
			"behind too many nodes": pair(large, cons(zero, bad)),
		})
	}
}

// P5.2: the order of the errors of Read: that of terms.Check, ErrForm, ErrSize.
func TestReadErrors(t *testing.T) {
	for i, q := range []struct {
		t   api.Term
		err api.Errno
	}{
		{api.Term{}, api.ErrForm},
		{api.Term{Kind: api.TermZero, Index: 1}, api.ErrForm},
		{api.Term{Kind: api.TermZero, Type: nat}, api.ErrForm},
		{node(api.TermSucc), api.ErrForm},
		{pair(zero, api.Term{Kind: 14}), api.ErrForm},
		{pair(samples.Full(12), api.Term{}), api.ErrForm},
		{pair(v(0), samples.Full(12)), api.ErrSize}, // of terms.Check
		{above(4096, zero), api.ErrSize},
		{above(4096, v(0)), api.ErrSize},
		{above(1<<16, none), api.ErrSize},
		{above(1<<16, api.Term{}), api.ErrForm},
		{numbers(make([]int, 2048)...), api.ErrSize},
		{samples.Right(31, zero), api.OK},
		{samples.Right(32, zero), api.ErrSize},
		{samples.Left(32, only), api.ErrSize},
		{samples.Right(32, v(0)), api.ErrForm},
		{samples.Left(32, v(0)), api.ErrForm},
		{samples.Full(6), api.ErrSize},
		{samples.Full(11), api.ErrSize},
		{samples.Right(2047, none), api.ErrSize},
		{samples.Right(2047, v(0)), api.ErrForm},
		{samples.Left(2047, v(0)), api.ErrForm},
		{samples.Right(2048, v(0)), api.ErrSize},
		{pair(samples.Full(10), lam(nat, zero)), api.ErrForm},
	} {
		got, err := value.Read(q.t)
		must(t, strconv.Itoa(i)+": error", err, q.err)
		if q.err != api.OK {
			must(t, strconv.Itoa(i)+": no value", got, api.Value{})
		}
	}
}

// P5.2: of all small terms those of values are read, each as its value, and no others.
func TestReadOfMany(t *testing.T) {
	const most = 5
	text := func(x api.Term) string { return fmt.Sprintf("%+v", x) }
	values := map[string]api.Value{}
	for _, x := range few(most) {
		values[text(meaning(x))] = x
	}
	found := 0
	for _, x := range samples.Small(most) {
		want, is := values[text(x)]
		err := api.ErrForm
		if is {
			found++
			err = api.OK
		}
		got, e := value.Read(x)
		must(t, text(x), []any{got, e}, []any{want, err})
	}
	must(t, "terms of values", found, len(few(most)))
}

// P5.2: Number.
func TestNumber(t *testing.T) {
	for _, q := range []struct {
		n   int
		err api.Errno
	}{
		{0, api.OK}, {1, api.OK}, {3, api.OK}, {4094, api.OK}, {4095, api.OK},
		{4096, api.ErrSize}, {4097, api.ErrSize}, {1 << 32, api.ErrSize}, {greatest - 1, api.ErrSize}, {greatest, api.ErrSize},
		{-1, api.ErrRange}, {-4096, api.ErrRange}, {-1 << 32, api.ErrRange}, {-1 << 63, api.ErrRange},
	} {
		want := api.Term{}
		if q.err == api.OK {
			want = above(q.n, zero)
		}
		got, err := value.Number(q.n)
		must(t, strconv.Itoa(q.n)+": error", err, q.err)
		must(t, strconv.Itoa(q.n), terms.Same(got, want), true)
	}
}

// P5.3: the closed terms as the chapter writes them, with their types, each time in new memory.
func TestArithmeticTerms(t *testing.T) {
	pred := lam(nat, rec(nat, zero, lam(nat, lam(nat, v(1))), v(0)))
	plus := lam(nat, lam(nat, rec(nat, v(1), lam(nat, lam(nat, succ(v(0)))), v(0))))
	times := lam(nat, lam(nat, rec(nat, zero, lam(nat, lam(nat, app(app(plus, v(0)), v(3)))), v(0))))
	sub := lam(nat, lam(nat, rec(nat, v(1), lam(nat, lam(nat, app(pred, v(0)))), v(0))))
	distance := lam(nat, lam(nat, app(app(plus, app(app(sub, v(1)), v(0))), app(app(sub, v(0)), v(1)))))
	one, more := fun(nat, nat), fun(nat, fun(nat, nat))
	for _, q := range []struct {
		name string
		f    func() api.Term
		want api.Term
		t    api.Type
	}{{"Pred", value.Pred, pred, one}, {"Plus", value.Plus, plus, more}, {"Times", value.Times, times, more}, {"Sub", value.Sub, sub, more}, {"Distance", value.Distance, distance, more}} {
		got := q.f()
		must(t, q.name, got, q.want)
		u, err := terms.TypeOf(nil, got)
		must(t, q.name+": type", []any{u, err}, []any{q.t, api.OK})
		got.Args[0] = zero
		must(t, q.name+": once more", q.f(), q.want)
	}
}

// normal reports whether a term is normal.
func normal(t *testing.T, x api.Term) bool {
	t.Helper()
	_, more, err := reduce.Step(x)
	must(t, "a step", err, api.OK)
	return !more
}

// The chapter's consequences: the normal forms of sums, products, differences and distances.
func TestArithmetic(t *testing.T) {
	const most = 7
	of := func(f api.Term, l ...int) api.Term {
		for _, n := range l {
			f = app(f, number(n))
		}
		return f
	}
	check := func(what string, x api.Term, want int) {
		t.Helper()
		got, _, err := reduce.Normal(x, api.MaxWork)
		must(t, what+": error", err, api.OK)
		n, err := value.Read(got)
		must(t, what, []any{n, err}, []any{num(want), api.OK})
	}
	for a := range most {
		check(fmt.Sprint("before ", a), of(value.Pred(), a), max(a-1, 0))
		for b := range most {
			at := fmt.Sprint(" ", a, " ", b)
			check("sum"+at, of(value.Plus(), a, b), a+b)
			check("product"+at, of(value.Times(), a, b), a*b)
			check("difference"+at, of(value.Sub(), a, b), max(a-b, 0))
			check("distance"+at, of(value.Distance(), a, b), max(a-b, b-a))
		}
	}
	check("before a large number", of(value.Pred(), 900), 899)
	check("large sum", of(value.Plus(), 300, 70), 370)
	check("large product", of(value.Times(), 9, 11), 99)
	check("large difference", of(value.Sub(), 40, 11), 29)
	check("no difference", of(value.Sub(), 11, 40), 0)
	check("large distance", of(value.Distance(), 11, 30), 19)
}

// The chapter's consequences: Read of Term is the value, and the term is normal and has the type of the value.
func TestReadOfTerm(t *testing.T) {
	l := append(few(7),
		num(4095), nums(4093), nums(make([]int, 2047)...), two(num(2047), num(2046)), full(5, num(126)), full(5, nums(0, 1, 2)),
		right(31, nums(3, 1)), left(31, single), two(full(4, nums(5)), full(4, num(5))))
	for i, x := range l {
		what := strconv.Itoa(i)
		trm, err := value.Term(x)
		must(t, what+": Term", err, api.OK)
		back, err := value.Read(trm)
		must(t, what+": Read", []any{back, err}, []any{x, api.OK})
		must(t, what+": Same", value.Same(back, x), true)
		u, err := value.TypeOf(x)
		must(t, what+": TypeOf", err, api.OK)
		typ, err := terms.TypeOf(nil, trm)
		must(t, what+": its type", []any{typ, err}, []any{u, api.OK})
		must(t, what+": normal", normal(t, trm), true)
	}
	must(t, "many values", len(l) > 400, true)
}

// The chapter's example.
func TestExample(t *testing.T) {
	got, err := value.Term(api.Value{Kind: api.ValueNum, Num: 2})
	must(t, "2", []any{got, err}, []any{succ(succ(zero)), api.OK})
}

// R2: arguments stay as they were, and so does what lies behind them in their memory.
func TestArgumentsStay(t *testing.T) {
	l := []int{3, 0, 1, 77}
	args := []api.Value{plain(api.ValueList, 0, l[:3]), num(2), num(77)}
	x := api.Value{Kind: api.ValuePair, Args: args[:2]}
	was := deep(x)
	value.Check(x)
	value.Same(x, x)
	value.TypeOf(x)
	trm, _ := value.Term(x)
	must(t, "value", deep(x), was)
	must(t, "behind it", []any{l[3], args[2]}, []any{77, num(77)})

	parts := []api.Term{trm, zero, node(77)}
	p := api.Term{Kind: api.TermPair, Args: parts[:2]}
	before := samples.Deep(p)
	first, _ := value.Read(p)
	kept := deep(first)
	must(t, "term", samples.Deep(p), before)
	must(t, "behind the term", parts[2], node(77))

	l[0], args[1] = 9, single
	again, _ := value.Read(p)
	must(t, "results do not follow what becomes of the value", []any{first, again}, []any{kept, kept})
}
