package terms_test

import (
	"reflect"
	"slices"
	"strconv"
	"testing"

	"proofprograms/api"
	"proofprograms/samples"
	"proofprograms/terms"
	"proofprograms/types"
)

// The calls have exactly these signatures.
var (
	_ func(api.Term) api.Errno                         = terms.Check
	_ func(api.Term) (int, api.Errno)                  = terms.Size
	_ func(a, b api.Term) bool                         = terms.Same
	_ func([]api.Type, api.Term) (api.Type, api.Errno) = terms.TypeOf
	_ func(api.Type) (api.Term, api.Errno)             = terms.Default
	_ func(api.Term, []api.Term) (api.Term, api.Errno) = terms.Apply
)

// What the tests are made of.
var (
	nat, list, unit  = samples.Nat, samples.List, samples.Unit
	zero, none, only = samples.Zero, samples.None, samples.Only
	both, fun, wide  = samples.Both, samples.Fun, samples.Wide

	node, typed        = samples.Node, samples.Typed
	v, lam, app        = samples.Var, samples.Lam, samples.App
	succ, cons, pair   = samples.Succ, samples.Cons, samples.Pair
	rec, fold          = samples.Rec, samples.Fold
	above, right, left = samples.Above, samples.Right, samples.Left
	full, small, deep  = samples.Full, samples.Small, samples.Deep
)

// must fails the test if what a call returned is not what it should be (reflect tells nil from empty slices apart: nil is the zero value).
func must(t *testing.T, what string, got, want any) {
	t.Helper()
	if !reflect.DeepEqual(got, want) {
		t.Errorf("%s: got %+v, want %+v", what, got, want)
	}
}

// errorOf returns what Check says of a tree, and fails if Size or Apply say another thing, or return anything else with an error, or if TypeOf does not name that error.
func errorOf(t *testing.T, what string, x api.Term) api.Errno {
	t.Helper()
	err := terms.Check(x)
	size, e1 := terms.Size(x)
	f, e2 := terms.Apply(x, nil)
	g, e3 := terms.Apply(v(0), []api.Term{x})
	u, e4 := terms.TypeOf(nil, x)
	must(t, what+": errors", []api.Errno{e1, e2}, []api.Errno{err, err})
	if err != api.OK {
		must(t, what+": other errors", []api.Errno{e3, e4}, []api.Errno{err, err})
		must(t, what+": results", []any{size, f, g, u}, []any{0, api.Term{}, api.Term{}, api.Type{}})
	}
	return err
}

// P2.1: Check and Size of terms.
func TestValid(t *testing.T) {
	for _, q := range []struct {
		name string
		t    api.Term
		size int
	}{
		{"variable", v(0), 1},
		{"variable with a large Index", v(1<<63 - 1), 1},
		{"function", lam(nat, v(0)), 2},
		{"application", app(v(0), v(1)), 3},
		{"zero", zero, 1},
		{"successor", succ(zero), 2},
		{"recursion", rec(nat, zero, v(0), v(1)), 4},
		{"empty list", none, 1},
		{"list", cons(zero, none), 3},
		{"fold", fold(list, none, v(0), v(1)), 4},
		{"pair", pair(zero, none), 3},
		{"first", node(api.TermFst, v(0)), 2},
		{"second", node(api.TermSnd, v(0)), 2},
		{"unit", only, 1},
		{"no type is needed to be valid", app(zero, succ(none)), 4},
		{"nodes of types do not count", lam(wide(31, nat), rec(wide(31, unit), v(0), v(0), v(0))), 5},
		{"no Args as an empty slice", api.Term{Kind: api.TermZero, Args: []api.Term{}}, 1},
		{"no Type with an empty slice", api.Term{Kind: api.TermVar, Type: api.Type{Args: []api.Type{}}}, 1},
		{"no Args with spare capacity", api.Term{Kind: api.TermNil, Args: make([]api.Term, 0, 4)}, 1},
		{"as many nodes as may be", above(api.MaxTerm-1, zero), api.MaxTerm},
		{"as many to the right", succ(right(api.MaxTerm/2-1, none)), api.MaxTerm},
		{"as many to the left", succ(left(api.MaxTerm/2-1, none)), api.MaxTerm},
		{"as many on all sides", succ(full(11)), api.MaxTerm},
	} {
		must(t, q.name, errorOf(t, q.name, q.t), api.OK)
		size, _ := terms.Size(q.t)
		must(t, q.name+": Size", size, q.size)
	}
}

// P2.1: a node that is not as it should be, at any place of a tree of any size, is the first error.
func TestForm(t *testing.T) {
	for i, bad := range samples.WrongTerms() {
		for name, x := range map[string]api.Term{
			"at the root":             bad,
			"body":                    lam(nat, bad),
			"first":                   pair(bad, zero),
			"second":                  app(zero, bad),
			"third":                   rec(nat, zero, zero, bad),
			"middle":                  fold(nat, zero, bad, zero),
			"below, to the right":     right(20, bad),
			"below, to the left":      left(20, bad),
			"behind too many nodes":   pair(full(12), bad),
			"before too many nodes":   pair(bad, full(12)),
			"below too many nodes":    right(5000, bad),
			"below them, to the left": left(5000, bad),
			"below more of one Arg":   above(5000, bad),
		} {
			what := strconv.Itoa(i) + " " + name
			must(t, what, errorOf(t, what, x), api.ErrForm)
		}
	}
}

// P2.1: too many nodes, all of them as they should be.
func TestTooLarge(t *testing.T) {
	for name, x := range map[string]api.Term{
		"one more":                above(api.MaxTerm, zero),
		"one more to the right":   right(api.MaxTerm/2, zero),
		"one more to the left":    left(api.MaxTerm/2, none),
		"8191 nodes":              full(12),
		"half a million nodes":    full(18),
		"2^16 levels":             above(1<<16, v(0)),
		"2^16 levels to the left": left(1<<16, v(0)),
	} {
		must(t, name, errorOf(t, name, x), api.ErrSize)
	}
	what := "2^16 levels with a wrong node below"
	must(t, what, errorOf(t, what, above(1<<16, v(-1))), api.ErrForm)
}

// P2.1: Same, of terms and of other trees.
func TestSame(t *testing.T) {
	for i, q := range []struct {
		a, b api.Term
		want bool
	}{
		{api.Term{}, api.Term{}, true},
		{api.Term{}, zero, false},
		{v(0), v(0), true},
		{v(0), v(1), false},
		{v(-3), v(-3), true},
		{v(-3), v(3), false},
		{zero, none, false},
		{api.Term{Kind: 77}, api.Term{Kind: 77, Args: []api.Term{}}, true},
		{api.Term{Kind: 77}, api.Term{Kind: 77, Type: api.Type{Args: []api.Type{}}}, true},
		{api.Term{Kind: 77, Index: 1}, api.Term{Kind: 77}, false},
		{typed(77, nat), typed(77, nat), true},
		{typed(77, nat), typed(77, list), false},
		{typed(77, api.Type{Kind: -4}), typed(77, api.Type{Kind: -4}), true},
		{typed(77, api.Type{Kind: -4}), typed(77, api.Type{}), false},
		{typed(77, fun(nat, nat)), typed(77, fun(nat, list)), false},
		{lam(nat, v(0)), lam(nat, v(0)), true},
		{lam(nat, v(0)), lam(list, v(0)), false},
		{lam(nat, v(0)), lam(nat, v(1)), false},
		{pair(v(0), v(1)), pair(v(0), v(1)), true},
		{pair(v(0), v(1)), pair(v(1), v(0)), false},
		{pair(v(0), v(1)), app(v(0), v(1)), false},
		{node(77, zero), node(77), false},
		{node(77, zero), node(77, zero, zero), false},
		{node(77, zero, none), node(77, zero, zero), false},
		{rec(nat, zero, v(0), v(1)), rec(nat, zero, v(0), v(1)), true},
		{rec(nat, zero, v(0), v(1)), rec(nat, zero, v(0), v(2)), false},
		{rec(nat, zero, v(0), v(1)), fold(nat, zero, v(0), v(1)), false},
		{pair(pair(zero, none), only), pair(zero, pair(none, only)), false},
		{above(1<<16, zero), above(1<<16, zero), true},
		{above(1<<16, zero), above(1<<16, none), false},
		{left(1<<16, zero), left(1<<16, zero), true},
		{left(1<<16, zero), left(1<<16-1, zero), false},
		{node(1, slices.Repeat([]api.Term{zero}, 1<<16)...), node(1, slices.Repeat([]api.Term{zero}, 1<<16)...), true},
		{full(15), full(15), true},
	} {
		must(t, strconv.Itoa(i), terms.Same(q.a, q.b), q.want)
		must(t, strconv.Itoa(i)+" turned", terms.Same(q.b, q.a), q.want)
	}
	l := small(3)
	for i, a := range l {
		for j, b := range l {
			must(t, strconv.Itoa(i)+" and "+strconv.Itoa(j), terms.Same(deep(a), b), i == j)
		}
	}
}

// The context of the tests of types: the variable 0 is a number, 1 a list, 2 a function of numbers, 3 a pair, 4 a step of Rec, 5 one of Fold.
var context = []api.Type{
	fun(nat, fun(list, fun(both(nat, list), both(nat, list)))),
	fun(nat, fun(both(nat, list), both(nat, list))),
	both(nat, list),
	fun(nat, nat),
	list,
	nat,
}

// P2.2: each row of the table of types.
func TestTypes(t *testing.T) {
	p := both(nat, list)
	for i, q := range []struct {
		t    api.Term
		want api.Type
	}{
		{v(0), nat},
		{v(1), list},
		{v(2), fun(nat, nat)},
		{v(5), context[0]},
		{lam(unit, v(0)), fun(unit, unit)},
		{lam(unit, v(1)), fun(unit, nat)},
		{lam(unit, v(6)), fun(unit, context[0])},
		{lam(unit, lam(list, pair(v(0), v(1)))), fun(unit, fun(list, both(list, unit)))},
		{pair(lam(unit, v(0)), v(0)), both(fun(unit, unit), nat)},
		{pair(lam(unit, v(0)), lam(list, v(0))), both(fun(unit, unit), fun(list, list))},
		{app(v(2), v(0)), nat},
		{app(lam(list, v(3)), v(1)), fun(nat, nat)},
		{app(v(4), zero), fun(p, p)},
		{app(app(v(4), v(0)), v(3)), p},
		{zero, nat},
		{succ(v(0)), nat},
		{rec(p, v(3), v(4), v(0)), p},
		{rec(nat, zero, lam(nat, v(3)), v(0)), nat},
		{rec(fun(nat, nat), v(2), lam(nat, lam(fun(nat, nat), v(0))), v(0)), fun(nat, nat)},
		{none, list},
		{cons(v(0), v(1)), list},
		{fold(p, v(3), v(5), v(1)), p},
		{fold(nat, zero, lam(nat, lam(list, lam(nat, succ(v(0))))), v(1)), nat},
		{pair(v(1), v(2)), both(list, fun(nat, nat))},
		{node(api.TermFst, v(3)), nat},
		{node(api.TermSnd, v(3)), list},
		{only, unit},
	} {
		got, err := terms.TypeOf(context, q.t)
		must(t, strconv.Itoa(i)+": error", err, api.OK)
		must(t, strconv.Itoa(i), types.Same(got, q.want), true)
	}
}

// P2.2: Args whose types are not as the table asks.
func TestWrongTypes(t *testing.T) {
	for i, x := range []api.Term{
		app(zero, zero), app(v(3), v(0)), app(only, v(0)), app(v(2), v(1)), app(v(2), v(2)), app(lam(both(nat, nat), v(0)), v(3)), app(app(v(2), v(0)), v(0)),
		succ(v(1)), succ(v(2)), succ(v(3)), succ(only),
		rec(nat, v(1), v(2), v(0)), rec(nat, zero, v(2), v(0)), rec(nat, zero, v(0), v(0)), rec(nat, v(0), v(4), v(0)),
		rec(list, v(3), v(4), v(0)), rec(both(nat, list), v(0), v(4), v(0)), rec(both(nat, list), v(3), v(5), v(0)),
		rec(both(nat, list), v(3), v(4), v(1)), rec(both(nat, list), v(3), v(4), v(3)), rec(both(list, nat), v(3), v(4), v(0)),
		cons(v(1), v(1)), cons(v(0), v(0)), cons(v(1), v(0)), cons(v(2), v(1)), cons(v(0), only),
		fold(nat, v(3), v(5), v(1)), fold(both(nat, list), v(0), v(5), v(1)), fold(both(nat, list), v(3), v(4), v(1)),
		fold(both(nat, list), v(3), v(5), v(0)), fold(both(nat, list), v(3), v(1), v(1)), fold(list, v(1), v(5), v(1)),
		fold(nat, zero, lam(list, lam(nat, lam(nat, v(0)))), v(1)),
		node(api.TermFst, v(0)), node(api.TermFst, v(4)), node(api.TermFst, v(1)), node(api.TermSnd, v(0)), node(api.TermSnd, v(2)), node(api.TermSnd, only),
		lam(nat, succ(v(2))), pair(zero, succ(none)), node(api.TermFst, pair(zero, succ(none))),
	} {
		got, err := terms.TypeOf(context, x)
		must(t, strconv.Itoa(i), []any{got, err}, []any{api.Type{}, api.ErrType})
	}
}

// P2.2: the errors of TypeOf, in their order.
func TestOrderOfErrors(t *testing.T) {
	unscoped, untyped, oversized := v(9), succ(none), lam(wide(31, nat), zero)
	malformed, large := api.Term{}, above(api.MaxTerm, v(9))
	seventeen := slices.Repeat([]api.Type{nat}, api.MaxContext+1)
	for i, q := range []struct {
		context []api.Type
		t       api.Term
		want    api.Errno
	}{
		{seventeen, malformed, api.ErrLimit},
		{append([]api.Type{{}}, seventeen...), zero, api.ErrLimit},
		{[]api.Type{{}}, large, api.ErrForm},
		{[]api.Type{nat, wide(32, nat)}, malformed, api.ErrSize},
		{[]api.Type{wide(32, nat), {}}, malformed, api.ErrSize},
		{nil, pair(unscoped, malformed), api.ErrForm},
		{nil, pair(large, malformed), api.ErrForm},
		{nil, large, api.ErrSize},
		{nil, pair(untyped, large), api.ErrSize},
		{nil, v(0), api.ErrScope},
		{nil, v(1<<63 - 1), api.ErrScope},
		{[]api.Type{nat, nat}, v(2), api.ErrScope},
		{nil, lam(nat, v(1)), api.ErrScope},
		{nil, pair(lam(nat, v(0)), v(0)), api.ErrScope},
		{nil, app(lam(nat, lam(nat, v(1))), v(0)), api.ErrScope},
		{nil, oversized, api.ErrSize},
		// Of several nodes with errors, the first one in order decides, whatever its error is.
		{nil, pair(unscoped, untyped), api.ErrScope},
		{nil, pair(untyped, unscoped), api.ErrType},
		{nil, pair(oversized, unscoped), api.ErrSize},
		{nil, pair(untyped, oversized), api.ErrType},
		{nil, pair(oversized, untyped), api.ErrSize},
		{nil, succ(pair(none, unscoped)), api.ErrScope},
		{nil, succ(oversized), api.ErrSize},
		{nil, rec(nat, none, untyped, unscoped), api.ErrType},
		{nil, rec(nat, none, zero, unscoped), api.ErrScope},
		{nil, rec(nat, oversized, unscoped, untyped), api.ErrSize},
		{nil, fold(nat, none, none, oversized), api.ErrSize},
		{nil, app(app(zero, zero), unscoped), api.ErrType},
		{nil, app(zero, app(zero, unscoped)), api.ErrScope},
	} {
		got, err := terms.TypeOf(q.context, q.t)
		must(t, strconv.Itoa(i), []any{got, err}, []any{api.Type{}, q.want})
	}
}

// P2.2: the type of a node has at most api.MaxType nodes.
func TestLargeTypes(t *testing.T) {
	w := wide(31, nat) // 63 nodes
	for i, q := range []struct {
		context []api.Type
		t       api.Term
		want    api.Type
		err     api.Errno
	}{
		{[]api.Type{w}, v(0), w, api.OK},
		{nil, lam(wide(30, nat), zero), fun(wide(30, nat), nat), api.OK},
		{nil, lam(w, zero), api.Type{}, api.ErrSize},
		{[]api.Type{wide(30, nat)}, lam(nat, v(1)), w, api.OK},
		{[]api.Type{w}, lam(nat, v(1)), api.Type{}, api.ErrSize},
		{[]api.Type{wide(30, nat)}, pair(v(0), zero), both(wide(30, nat), nat), api.OK},
		{[]api.Type{w}, pair(v(0), zero), api.Type{}, api.ErrSize},
		{[]api.Type{w}, pair(zero, v(0)), api.Type{}, api.ErrSize},
		{[]api.Type{wide(15, nat)}, pair(v(0), v(0)), both(wide(15, nat), wide(15, nat)), api.OK},
		{[]api.Type{wide(16, nat)}, pair(v(0), v(0)), api.Type{}, api.ErrSize},
		{[]api.Type{w}, app(v(0), zero), wide(30, nat), api.OK},
		{[]api.Type{w}, lam(w, zero), api.Type{}, api.ErrSize},
		// The step would have a type that is too large to be one: nothing has it.
		{[]api.Type{w}, rec(w, v(0), zero, zero), api.Type{}, api.ErrType},
		{[]api.Type{w}, fold(w, v(0), zero, none), api.Type{}, api.ErrType},
		{[]api.Type{w}, rec(w, v(0), lam(nat, lam(w, v(0))), zero), api.Type{}, api.ErrSize},
		{[]api.Type{wide(14, nat)}, rec(wide(14, nat), v(0), lam(nat, lam(wide(14, nat), v(0))), zero), wide(14, nat), api.OK},
		{[]api.Type{wide(13, nat)}, fold(wide(13, nat), v(0), lam(nat, lam(list, lam(wide(13, nat), v(0)))), none), wide(13, nat), api.OK},
	} {
		got, err := terms.TypeOf(q.context, q.t)
		must(t, strconv.Itoa(i)+": error", err, q.err)
		must(t, strconv.Itoa(i), types.Same(got, q.want), true)
	}
}

// P2.2: below functions a context may have more than api.MaxContext types.
func TestLongContexts(t *testing.T) {
	sixteen := append([]api.Type{list}, slices.Repeat([]api.Type{nat}, api.MaxContext-1)...)
	got, err := terms.TypeOf(sixteen, lam(unit, lam(fun(nat, nat), v(17))))
	must(t, "behind sixteen", []any{got, err}, []any{fun(unit, fun(fun(nat, nat), list)), api.OK})

	const most = 1300
	inner := func(t api.Term) api.Term {
		for range most {
			t = app(lam(nat, t), zero)
		}
		return t
	}
	got, err = terms.TypeOf([]api.Type{list}, inner(v(most)))
	must(t, "the first variable", []any{got, err}, []any{list, api.OK})
	got, err = terms.TypeOf([]api.Type{list}, inner(v(most-1)))
	must(t, "the next one", []any{got, err}, []any{nat, api.OK})
	got, err = terms.TypeOf([]api.Type{list}, inner(v(most+1)))
	must(t, "no variable", []any{got, err}, []any{api.Type{}, api.ErrScope})
}

// someTypes are types of all kinds.
func someTypes() []api.Type {
	l := []api.Type{nat, list, unit}
	for range 2 {
		for _, a := range slices.Clone(l) {
			l = append(l, both(a, nat), both(unit, a), fun(a, list), fun(nat, a), fun(a, a))
		}
	}
	return append(l, wide(31, unit))
}

// P2.3: Default.
func TestDefault(t *testing.T) {
	for i, q := range []struct {
		t    api.Type
		want api.Term
		err  api.Errno
	}{
		{nat, zero, api.OK},
		{list, none, api.OK},
		{unit, only, api.OK},
		{both(list, both(unit, nat)), pair(none, pair(only, zero)), api.OK},
		{fun(list, unit), lam(list, only), api.OK},
		{fun(fun(nat, list), fun(unit, both(nat, list))), lam(fun(nat, list), lam(unit, pair(zero, none))), api.OK},
		{both(fun(nat, nat), list), pair(lam(nat, zero), none), api.OK},
		{api.Type{}, api.Term{}, api.ErrForm},
		{fun(nat, api.Type{}), api.Term{}, api.ErrForm},
		{fun(api.Type{Kind: 6}, nat), api.Term{}, api.ErrForm},
		{wide(32, nat), api.Term{}, api.ErrSize},
		{wide(32, api.Type{}), api.Term{}, api.ErrForm},
	} {
		got, err := terms.Default(q.t)
		must(t, strconv.Itoa(i)+": error", err, q.err)
		must(t, strconv.Itoa(i), terms.Same(got, q.want), true)
	}
}

// P2.3: Apply.
func TestApply(t *testing.T) {
	bad, large := api.Term{}, above(api.MaxTerm, zero)
	for i, q := range []struct {
		f    api.Term
		l    []api.Term
		want api.Term
		err  api.Errno
	}{
		{v(0), nil, v(0), api.OK},
		{succ(v(0)), []api.Term{}, succ(v(0)), api.OK},
		{v(0), []api.Term{zero}, app(v(0), zero), api.OK},
		{v(0), []api.Term{zero, none, only}, app(app(app(v(0), zero), none), only), api.OK},
		{app(v(0), v(1)), []api.Term{v(2), app(v(3), v(4))}, app(app(app(v(0), v(1)), v(2)), app(v(3), v(4))), api.OK},
		{zero, []api.Term{zero}, app(zero, zero), api.OK}, // types are not asked for
		{above(4094, zero), nil, above(4094, zero), api.OK},
		{above(4092, zero), []api.Term{none}, app(above(4092, zero), none), api.OK},
		{above(4093, zero), []api.Term{none}, app(above(4093, zero), none), api.OK},
		{above(4094, zero), []api.Term{none}, api.Term{}, api.ErrSize},
		{v(0), []api.Term{above(4093, zero)}, app(v(0), above(4093, zero)), api.OK},
		{v(0), []api.Term{above(4094, zero)}, api.Term{}, api.ErrSize},
		{v(0), []api.Term{above(2000, zero), above(2091, zero)}, app(app(v(0), above(2000, zero)), above(2091, zero)), api.OK},
		{v(0), []api.Term{above(2000, zero), above(2092, zero)}, api.Term{}, api.ErrSize},
		{v(0), slices.Repeat([]api.Term{zero}, 1<<16), api.Term{}, api.ErrSize},
		{bad, nil, api.Term{}, api.ErrForm},
		{large, nil, api.Term{}, api.ErrSize},
		{large, []api.Term{bad}, api.Term{}, api.ErrSize},
		{bad, []api.Term{large}, api.Term{}, api.ErrForm},
		{v(0), []api.Term{zero, bad, large}, api.Term{}, api.ErrForm},
		{v(0), []api.Term{zero, large, bad}, api.Term{}, api.ErrSize},
		// The result would be too large, but a later term is wrong: that is first.
		{above(4000, zero), []api.Term{above(4000, zero), bad}, api.Term{}, api.ErrForm},
		{v(0), append(slices.Repeat([]api.Term{zero}, 3000), v(-1)), api.Term{}, api.ErrForm},
	} {
		got, err := terms.Apply(q.f, q.l)
		must(t, strconv.Itoa(i)+": error", err, q.err)
		must(t, strconv.Itoa(i), terms.Same(got, q.want), true)
	}
	got, err := terms.Apply(v(0), slices.Repeat([]api.Term{zero}, 2047))
	size, _ := terms.Size(got)
	must(t, "as many terms as may be", []any{size, err}, []any{4095, api.OK})
}

// The chapter's consequences: the default of a type has that type in every context.
func TestDefaultHasItsType(t *testing.T) {
	for i, u := range someTypes() {
		d, err := terms.Default(u)
		must(t, strconv.Itoa(i)+": error", err, api.OK)
		for j, c := range [][]api.Type{nil, {list}, context, slices.Repeat([]api.Type{unit}, api.MaxContext)} {
			got, err := terms.TypeOf(c, d)
			must(t, strconv.Itoa(i)+" in "+strconv.Itoa(j), []any{types.Same(got, u), err}, []any{true, api.OK})
		}
	}
}

// The chapter's consequences: a term that has a type has the same one in a context with more types before the others.
func TestMoreTypesBefore(t *testing.T) {
	fewer := []api.Type{list, fun(nat, nat), nat}
	found := 0
	for i, x := range small(4) {
		u, err := terms.TypeOf(fewer[1:], x)
		if err != api.OK {
			must(t, strconv.Itoa(i)+": no type", u, api.Type{})
			continue
		}
		found++
		for _, c := range [][]api.Type{fewer, append([]api.Type{nat, unit}, fewer[1:]...), append(slices.Repeat([]api.Type{list}, api.MaxContext-2), fewer[1:]...)} {
			again, err := terms.TypeOf(c, x)
			must(t, strconv.Itoa(i), []any{types.Same(again, u), err}, []any{true, api.OK})
		}
		must(t, strconv.Itoa(i)+": valid type", types.Check(u), api.OK)
	}
	must(t, "terms with types", found > 500, true)
}

// The chapter's example.
func TestExample(t *testing.T) {
	for i, c := range [][]api.Type{nil, {list}, context} {
		got, err := terms.TypeOf(c, lam(nat, v(0)))
		must(t, strconv.Itoa(i), []any{got, err}, []any{fun(nat, nat), api.OK})
	}
}

// R2: arguments stay as they were, and so does what lies behind them in their memory.
func TestArgumentsStay(t *testing.T) {
	markedTypes := func(l ...api.Type) []api.Type {
		return append(l, api.Type{Kind: 77}, api.Type{Kind: 78})[:len(l)]
	}
	marked := func(l ...api.Term) []api.Term { return append(l, node(77))[:len(l)] }
	c := markedTypes(list, fun(nat, nat))
	f := lam(nat, lam(list, v(2)))
	f.Args = marked(f.Args...)
	l := marked(zero, none)
	wasTypes, wasF, wasL := []api.Type{list, fun(nat, nat)}, deep(f), []api.Term{zero, none}

	terms.TypeOf(c, f)
	terms.TypeOf(c, pair(f, f))
	g, _ := terms.Apply(f, l)
	u, _ := terms.TypeOf(c, g)
	terms.Same(f, g)
	errorOf(t, "f", f)

	must(t, "result", u, fun(nat, nat))
	must(t, "context", c, wasTypes)
	must(t, "behind the context", c[:4][2:], []api.Type{{Kind: 77}, {Kind: 78}})
	must(t, "function", deep(f), wasF)
	must(t, "terms", l, wasL)
	must(t, "behind a body", f.Args[:2][1], node(77))
	must(t, "behind the terms", l[:3][2], node(77))
}
