package formula_test

import (
	"fmt"
	"reflect"
	"slices"
	"strconv"
	"testing"

	"proofprograms/api"
	"proofprograms/formula"
	"proofprograms/samples"
	"proofprograms/terms"
	"proofprograms/types"
)

// The calls have exactly these signatures.
var (
	_ func(f api.Formula) api.Errno                                    = formula.Check
	_ func(f api.Formula) (int, api.Errno)                             = formula.Size
	_ func(a, b api.Formula) bool                                      = formula.Same
	_ func(context []api.Type, f api.Formula) api.Errno                = formula.Typed
	_ func(f api.Formula, from, by int) (api.Formula, api.Errno)       = formula.Lift
	_ func(f api.Formula, at int) (api.Formula, api.Errno)             = formula.Lower
	_ func(f api.Formula, at int, s api.Term) (api.Formula, api.Errno) = formula.Put
	_ func(f api.Formula) ([]int, api.Errno)                           = formula.Uses
	_ func(a, b api.Formula) api.Errno                                 = formula.Match
	_ func() api.Formula                                               = formula.False
	_ func(f api.Formula) (api.Formula, api.Errno)                     = formula.Not
	_ func(a, b api.Formula) (api.Formula, api.Errno)                  = formula.Or
)

// What the tests are made of.
var (
	nat, list, unit  = samples.Nat, samples.List, samples.Unit
	zero, none, only = samples.Zero, samples.None, samples.Only
	both, fun, wide  = samples.Both, samples.Fun, samples.Wide

	node, v, lam, app = samples.Node, samples.Var, samples.Lam, samples.App
	succ, cons, pair  = samples.Succ, samples.Cons, samples.Pair
	rec, fold         = samples.Rec, samples.Fold
	above, full, num  = samples.Above, samples.Full, samples.Number

	tree, quant, falsum = samples.Tree, samples.Quant, samples.Falsum
	eq, and, imp        = samples.Eq, samples.And, samples.Imp
	all, ex             = samples.All, samples.Ex
	alls, ands, imps    = samples.Alls, samples.Ands, samples.Imps
)

// The greatest Index that may be lifted, and the greatest number.
const (
	farthest = 1 << 29
	greatest = 1<<63 - 1
)

// id is the identity, so that app(id, t) is t after a step.
var id = lam(nat, v(0))

// endless has no normal form, and stays as large as it is.
func endless() api.Term {
	half := lam(nat, app(v(0), v(0)))
	return app(half, half)
}

// growing has no normal form, and becomes larger with each step.
func growing() api.Term {
	half := lam(nat, pair(app(v(0), v(0)), v(0)))
	return app(half, half)
}

// must fails the test if what a call returned is not what it should be (reflect tells nil from empty slices apart: nil is the zero value).
func must(t *testing.T, what string, got, want any) {
	t.Helper()
	if !reflect.DeepEqual(got, want) {
		t.Errorf("%s: got %.400s, want %.400s", what, fmt.Sprintf("%+v", got), fmt.Sprintf("%+v", want))
	}
}

// mustFormula fails the test if a call did not return this formula and this error, or anything else with an error.
func mustFormula(t *testing.T, what string, got api.Formula, err api.Errno, want api.Formula, wantErr api.Errno) {
	t.Helper()
	if err != wantErr || !formula.Same(got, want) {
		t.Errorf("%s: got %.300s, %d, want %.300s, %d", what, fmt.Sprint(got), err, fmt.Sprint(want), wantErr)
	}
	if err != api.OK {
		must(t, what+": result with an error", got, api.Formula{})
	}
}

// errorOf returns what Check says of a tree, and fails if it is an error and any other call does not name it, or returns anything else with it.
func errorOf(t *testing.T, what string, x api.Formula) api.Errno {
	t.Helper()
	err := formula.Check(x)
	size, e := formula.Size(x)
	must(t, what+": error of Size", e, err)
	if err == api.OK {
		return err
	}
	free, e1 := formula.Uses(x)
	a, e2 := formula.Lift(x, -1, -1)
	b, e3 := formula.Lower(x, -1)
	c, e4 := formula.Put(x, -1, node(0))
	d, e5 := formula.Not(x)
	f, e6 := formula.Or(x, api.Formula{})
	g, e7 := formula.Or(falsum(), x)
	e8, e9, e10 := formula.Typed(nil, x), formula.Match(x, x), formula.Match(falsum(), x)
	must(t, what+": errors", []api.Errno{e1, e2, e3, e4, e5, e6, e7, e8, e9, e10}, slices.Repeat([]api.Errno{err}, 10))
	must(t, what+": results", []any{size, len(free)}, []any{0, 0})
	must(t, what+": formulas", []api.Formula{a, b, c, d, f, g}, make([]api.Formula, 6))
	return err
}

// P7.1: Check and Size of formulas.
func TestValid(t *testing.T) {
	for _, q := range []struct {
		name string
		f    api.Formula
		size int
	}{
		{"equation", eq(zero, v(0)), 3},
		{"equation of larger terms", eq(app(v(0), succ(v(1))), rec(nat, zero, v(0), v(1))), 9},
		{"no type is needed to be valid", eq(none, app(zero, only)), 5},
		{"variable with a large Index", eq(v(greatest), v(greatest)), 3},
		{"conjunction", and(falsum(), falsum()), 9},
		{"implication", imp(falsum(), eq(zero, zero)), 8},
		{"all", quant(api.FormAll, nat, falsum()), 5},
		{"some", quant(api.FormEx, list, falsum()), 5},
		{"uniform all", quant(api.FormAllU, unit, falsum()), 5},
		{"uniform some", quant(api.FormExU, both(nat, fun(nat, list)), falsum()), 5},
		{"nodes of types do not count", ex(wide(31, nat), eq(lam(wide(31, unit), v(0)), zero)), 5},
		{"empty slices", api.Formula{Kind: api.FormEq, Type: api.Type{Args: []api.Type{}}, Terms: []api.Term{zero, zero}, Args: []api.Formula{}}, 3},
		{"empty slices of a conjunction", api.Formula{Kind: api.FormAnd, Type: api.Type{Args: []api.Type{}}, Terms: []api.Term{}, Args: []api.Formula{falsum(), falsum()}}, 9},
		{"empty slices of a quantifier", api.Formula{Kind: api.FormAll, Type: api.Type{Kind: api.TypeNat, Args: []api.Type{}}, Terms: []api.Term{}, Args: []api.Formula{falsum()}}, 5},
		{"spare capacity", api.Formula{Kind: api.FormEq, Terms: append(make([]api.Term, 0, 9), zero, zero), Args: make([]api.Formula, 0, 9)}, 3},
		{"as many nodes as may be in a term", eq(num(4093), zero), api.MaxFormula},
		{"as many in the other term", eq(zero, num(4093)), api.MaxFormula},
		{"as many in both terms", eq(above(2046, none), succ(full(10))), api.MaxFormula},
		{"as many quantifiers", alls(4092, falsum()), api.MaxFormula},
		{"as many in first Args", ands(818, eq(zero, num(3))), api.MaxFormula},
		{"as many in second Args", imps(818, eq(zero, num(3))), api.MaxFormula},
		{"as many on all sides", alls(1537, samples.FullFormula(9)), api.MaxFormula},
	} {
		must(t, q.name, errorOf(t, q.name, q.f), api.OK)
		size, _ := formula.Size(q.f)
		must(t, q.name+": Size", size, q.size)
	}
}

// P7.1: a node that is not as it should be, at any place of a tree of any size, is the first error.
func TestForm(t *testing.T) {
	many := samples.FullFormula(11)
	for i, bad := range samples.WrongFormulas() {
		for name, x := range map[string]api.Formula{
			"at the root":              bad,
			"first":                    and(bad, falsum()),
			"second":                   imp(falsum(), bad),
			"below all":                quant(api.FormAll, nat, bad),
			"below some":               quant(api.FormEx, list, bad),
			"below uniform all":        quant(api.FormAllU, nat, bad),
			"below uniform some":       quant(api.FormExU, nat, bad),
			"below, in the first Args": ands(20, ex(nat, bad)),
			"below, in the last Args":  imps(20, all(nat, bad)),
		} {
			what := strconv.Itoa(i) + " " + name
			must(t, what, errorOf(t, what, x), api.ErrForm)
		}
		for name, x := range map[string]api.Formula{
			"behind too many nodes":     and(many, bad),
			"before too many nodes":     and(bad, many),
			"below too many nodes":      alls(5000, bad),
			"below more in first Args":  ands(5000, bad),
			"below more in second Args": imps(5000, bad),
			"behind a term too large":   imp(eq(above(4096, zero), zero), bad),
			"before a term too large":   imp(bad, eq(zero, full(12))),
		} {
			must(t, strconv.Itoa(i)+" "+name, formula.Check(x), api.ErrForm)
		}
	}
	for i, bad := range samples.WrongTerms() {
		what := "term " + strconv.Itoa(i)
		must(t, what+" behind one too large", formula.Check(eq(above(4096, zero), bad)), api.ErrForm)
		must(t, what+" before one too large", formula.Check(eq(bad, above(4096, zero))), api.ErrForm)
		must(t, what+" in one too large", formula.Check(eq(zero, above(5000, bad))), api.ErrForm)
	}
}

// P7.1: too many nodes, all of them as they should be.
func TestTooLarge(t *testing.T) {
	for name, x := range map[string]api.Formula{
		"one more in a term":               eq(num(4094), zero),
		"one more in the other term":       eq(zero, num(4094)),
		"one more in both":                 eq(num(2047), num(2047)),
		"a term of as many nodes":          eq(num(4095), zero),
		"a term that is too large":         eq(num(4096), zero),
		"another term that is too large":   eq(zero, full(12)),
		"both terms too large":             eq(full(12), full(12)),
		"one more quantifier":              alls(4093, falsum()),
		"one more in first Args":           ands(818, eq(zero, num(4))),
		"one more in second Args":          imps(818, eq(zero, num(4))),
		"one more on all sides":            alls(1538, samples.FullFormula(9)),
		"5119 nodes":                       samples.FullFormula(10),
		"2^16 quantifiers":                 alls(1<<16, falsum()),
		"2^16 levels in first Args":        ands(1<<16, falsum()),
		"2^16 levels in second Args":       imps(1<<16, falsum()),
		"2^16 levels of a term":            eq(above(1<<16, v(0)), zero),
		"many nodes on all sides":          samples.FullFormula(14),
		"a variable that is too far, also": eq(above(4096, v(farthest+1)), zero),
	} {
		must(t, name, errorOf(t, name, x), api.ErrSize)
	}
}

// P7.1: Same, of formulas and of other trees.
func TestSame(t *testing.T) {
	other := func(kind int, s api.Type, l []api.Term, args ...api.Formula) api.Formula {
		return tree(77+kind, s, l, args...)
	}
	for i, q := range []struct {
		a, b api.Formula
		want bool
	}{
		{api.Formula{}, api.Formula{}, true},
		{api.Formula{}, falsum(), false},
		{api.Formula{}, api.Formula{Kind: -1}, false},
		{api.Formula{Kind: greatest}, api.Formula{Kind: greatest, Args: []api.Formula{}, Terms: []api.Term{}, Type: api.Type{Args: []api.Type{}}}, true},
		{falsum(), falsum(), true},
		{eq(v(0), v(1)), eq(v(1), v(0)), false},
		{eq(v(0), v(1)), eq(v(0), v(0)), false},
		{eq(v(1), v(0)), eq(v(0), v(0)), false},
		{eq(app(id, zero), zero), eq(zero, zero), false}, // the same for Match alone
		{eq(v(-3), api.Term{}), eq(v(-3), api.Term{}), true},
		{eq(lam(nat, v(0)), zero), eq(lam(list, v(0)), zero), false},
		{other(0, nat, nil), other(0, nat, nil), true},
		{other(0, nat, nil), other(0, list, nil), false},
		{other(0, nat, nil), other(1, nat, nil), false},
		{other(0, api.Type{Kind: -4}, nil), other(0, api.Type{Kind: -4}, nil), true},
		{other(0, fun(nat, nat), nil), other(0, fun(nat, list), nil), false},
		{other(0, nat, []api.Term{zero}), other(0, nat, []api.Term{zero}), true},
		{other(0, nat, []api.Term{zero}), other(0, nat, nil), false},
		{other(0, nat, nil), other(0, nat, []api.Term{{}}), false},
		{other(0, nat, []api.Term{zero, none}), other(0, nat, []api.Term{zero, zero}), false},
		{other(0, nat, []api.Term{zero, none, zero}), other(0, nat, []api.Term{zero, none, only}), false},
		{other(0, nat, nil, falsum()), other(0, nat, nil), false},
		{other(0, nat, nil), other(0, nat, nil, api.Formula{}), false},
		{other(0, nat, nil, falsum()), other(0, nat, nil, falsum(), falsum()), false},
		{other(0, nat, []api.Term{zero}, falsum(), api.Formula{}), other(0, nat, []api.Term{zero}, falsum(), api.Formula{}), true},
		{other(0, nat, nil, falsum(), api.Formula{}), other(0, nat, nil, falsum(), falsum()), false},
		{and(falsum(), falsum()), imp(falsum(), falsum()), false},
		{and(falsum(), eq(zero, zero)), and(eq(zero, zero), falsum()), false},
		{and(and(falsum(), falsum()), falsum()), and(falsum(), and(falsum(), falsum())), false},
		{all(nat, falsum()), all(nat, falsum()), true},
		{all(nat, falsum()), all(list, falsum()), false},
		{all(nat, falsum()), ex(nat, falsum()), false},
		{all(nat, falsum()), quant(api.FormAllU, nat, falsum()), false},
		{all(nat, eq(v(0), v(1))), all(nat, eq(v(0), v(2))), false},
		{alls(1<<16, falsum()), alls(1<<16, falsum()), true},
		{alls(1<<16, falsum()), alls(1<<16, eq(zero, zero)), false},
		{ands(1<<16, falsum()), ands(1<<16-1, falsum()), false},
		{imps(1<<16, falsum()), imps(1<<16, falsum()), true},
		{eq(above(1<<16, zero), zero), eq(above(1<<16, zero), zero), true},
		{tree(1, nat, slices.Repeat([]api.Term{zero}, 1<<16)), tree(1, nat, slices.Repeat([]api.Term{zero}, 1<<16)), true},
		{tree(2, nat, nil, slices.Repeat([]api.Formula{falsum()}, 1<<16)...), tree(2, nat, nil, slices.Repeat([]api.Formula{falsum()}, 1<<16)...), true},
		{samples.FullFormula(13), samples.FullFormula(13), true},
	} {
		must(t, strconv.Itoa(i), formula.Same(q.a, q.b), q.want)
		must(t, strconv.Itoa(i)+" turned", formula.Same(q.b, q.a), q.want)
	}
	l := different()
	for i, a := range l {
		for j, b := range l {
			must(t, strconv.Itoa(i)+" and "+strconv.Itoa(j), formula.Same(samples.DeepFormula(a), b), i == j)
		}
	}
}

// different returns many small formulas, none twice.
func different() []api.Formula {
	var l []api.Formula
	few := samples.Small(1)
	for _, a := range few {
		for _, b := range few {
			l = append(l, eq(a, b))
		}
	}
	l = append(l, eq(succ(zero), zero), eq(zero, succ(zero)), eq(lam(nat, v(0)), zero), eq(lam(list, v(0)), zero))
	for i, a := range slices.Clone(l[:8]) {
		for _, kind := range samples.Quantifiers() {
			l = append(l, quant(kind, nat, a), quant(kind, fun(nat, nat), a))
		}
		for _, b := range l[i : i+3] {
			l = append(l, and(a, b), imp(a, b), all(nat, and(a, b)), and(all(nat, a), b), and(a, all(nat, b)))
		}
	}
	return l
}

// The context of the tests of Typed: the variable 0 is a number, 1 a list, 2 a function of numbers, 3 a pair.
var context = []api.Type{both(nat, list), fun(nat, nat), list, nat}

// P7.1: Typed.
func TestTyped(t *testing.T) {
	var allU, exU = api.FormAllU, api.FormExU
	for i, q := range []struct {
		f    api.Formula
		want api.Errno
	}{
		{falsum(), api.OK},
		{eq(v(0), v(0)), api.OK},
		{eq(app(v(2), v(0)), node(api.TermFst, v(3))), api.OK},
		{eq(v(1), v(0)), api.ErrType},
		{eq(v(0), v(1)), api.ErrType},
		{eq(v(1), v(1)), api.ErrType}, // equations are those of numbers
		{eq(v(2), v(2)), api.ErrType},
		{eq(v(3), v(3)), api.ErrType},
		{eq(only, only), api.ErrType},
		{eq(none, zero), api.ErrType},
		{eq(id, zero), api.ErrType},
		{eq(pair(zero, zero), zero), api.ErrType},
		{eq(v(4), zero), api.ErrScope},
		{eq(zero, v(4)), api.ErrScope},
		{eq(v(greatest), zero), api.ErrScope},
		{eq(succ(v(1)), zero), api.ErrType},
		{eq(zero, app(v(0), zero)), api.ErrType},
		{eq(zero, node(api.TermFst, lam(wide(31, nat), zero))), api.ErrSize},
		// The left side is first, and the type of the left side before the right side.
		{eq(v(4), v(1)), api.ErrScope},
		{eq(v(1), v(4)), api.ErrType},
		{eq(lam(wide(31, nat), zero), v(4)), api.ErrSize},
		{eq(v(4), lam(wide(31, nat), zero)), api.ErrScope},
		{eq(zero, pair(v(1), v(4))), api.ErrScope},
		// Parts, from left to right.
		{and(eq(v(0), zero), falsum()), api.OK},
		{and(eq(v(4), zero), eq(v(1), zero)), api.ErrScope},
		{imp(eq(v(1), zero), eq(v(4), zero)), api.ErrType},
		{imp(falsum(), eq(v(1), zero)), api.ErrType},
		{and(and(falsum(), eq(v(4), zero)), eq(v(1), zero)), api.ErrScope},
		// Quantifiers have their variables behind the context, and for their Arg alone.
		{all(nat, eq(v(0), v(1))), api.OK},
		{ex(list, eq(v(0), zero)), api.ErrType},
		{ex(list, eq(v(1), zero)), api.OK},
		{quant(allU, fun(nat, nat), eq(app(v(0), v(1)), app(v(3), v(1)))), api.OK},
		{quant(exU, fun(list, nat), eq(app(v(0), v(2)), zero)), api.OK},
		{quant(exU, fun(list, nat), eq(app(v(0), v(1)), zero)), api.ErrType},
		{all(list, ex(nat, eq(v(0), v(2)))), api.OK},
		{all(list, ex(nat, eq(v(1), v(2)))), api.ErrType},
		{all(nat, eq(v(4), v(0))), api.ErrType},
		{all(nat, eq(v(5), v(0))), api.ErrScope},
		{and(all(nat, falsum()), eq(v(4), zero)), api.ErrScope},
		{and(all(list, falsum()), eq(v(0), zero)), api.OK},
		{and(all(list, eq(v(1), zero)), ex(unit, eq(v(1), zero))), api.OK},
		{and(all(list, eq(v(1), zero)), ex(unit, eq(v(0), zero))), api.ErrType},
		{all(nat, eq(app(lam(list, v(1)), v(2)), v(0))), api.OK},
		{all(unit, all(unit, all(unit, eq(v(3), app(v(5), v(3)))))), api.OK},
	} {
		must(t, strconv.Itoa(i), formula.Typed(context, q.f), q.want)
	}
}

// P7.1: the errors of Typed that come before those of terms, in their order.
func TestTypedErrors(t *testing.T) {
	numbers := slices.Repeat([]api.Type{nat}, api.MaxContext)
	bad := api.Type{Kind: api.TypePair, Args: []api.Type{nat}}
	large := eq(num(4094), v(99))
	for i, q := range []struct {
		context []api.Type
		f       api.Formula
		want    api.Errno
	}{
		{nil, falsum(), api.OK},
		{[]api.Type{}, falsum(), api.OK},
		{nil, eq(v(0), zero), api.ErrScope},
		{numbers, eq(v(15), v(0)), api.OK},
		{numbers, eq(v(16), v(0)), api.ErrScope},
		{append(numbers, nat), falsum(), api.ErrLimit},
		{append(numbers, bad), api.Formula{}, api.ErrLimit},
		{slices.Repeat([]api.Type{bad}, 1<<16), api.Formula{}, api.ErrLimit},
		{[]api.Type{nat, bad}, api.Formula{}, api.ErrForm},
		{[]api.Type{nat, bad}, large, api.ErrForm},
		{[]api.Type{wide(32, nat), bad}, api.Formula{}, api.ErrSize},
		{[]api.Type{bad, wide(32, nat)}, large, api.ErrForm},
		{[]api.Type{wide(32, nat)}, falsum(), api.ErrSize},
		{[]api.Type{{}}, falsum(), api.ErrForm},
		{context, api.Formula{}, api.ErrForm},
		{context, and(eq(v(99), none), eq(v(-1), zero)), api.ErrForm},
		{context, all(api.Type{}, eq(v(99), none)), api.ErrForm},
		{context, large, api.ErrSize},
		{context, and(eq(v(99), none), large), api.ErrSize},
	} {
		must(t, strconv.Itoa(i), formula.Typed(q.context, q.f), q.want)
	}
}

// below returns a formula below quantifiers over the types of a context, of all kinds one after the other.
func below(context []api.Type, f api.Formula) api.Formula {
	kinds := samples.Quantifiers()
	for i, u := range slices.Backward(context) {
		f = quant(kinds[i%4], u, f)
	}
	return f
}

// P7.1: below quantifiers a context may grow beyond api.MaxContext.
func TestLongContexts(t *testing.T) {
	numbers := slices.Repeat([]api.Type{nat}, api.MaxContext)
	sum := v(0)
	for i := range 39 {
		sum = rec(nat, sum, lam(nat, lam(nat, succ(v(0)))), v(i+1))
	}
	for i, q := range []struct {
		context []api.Type
		f       api.Formula
		want    api.Errno
	}{
		{numbers, all(nat, eq(v(16), v(0))), api.OK},
		{numbers, all(nat, eq(v(17), v(0))), api.ErrScope},
		{numbers, all(list, eq(v(16), v(0))), api.ErrType},
		{numbers, all(list, eq(v(16), lam(list, v(17)))), api.ErrType},
		{numbers, all(list, eq(v(16), app(lam(list, v(17)), v(0)))), api.OK},
		{numbers, all(list, eq(v(16), app(lam(list, v(18)), v(0)))), api.ErrScope},
		{numbers, all(list, eq(v(16), app(lam(nat, v(17)), v(0)))), api.ErrType},
		{numbers, ex(wide(31, nat), eq(zero, node(api.TermFst, pair(v(0), zero)))), api.ErrSize},
		{numbers, ex(wide(31, nat), eq(zero, app(lam(nat, v(1)), zero))), api.ErrSize},
		{numbers, ex(nat, and(falsum(), eq(v(99), none))), api.ErrScope},
		{numbers, ex(nat, and(eq(none, v(99)), falsum())), api.ErrType},
		{nil, alls(40, eq(sum, v(39))), api.OK},
		{nil, alls(39, eq(sum, v(38))), api.ErrScope},
		{nil, all(list, alls(39, eq(sum, v(0)))), api.ErrType},
		{nil, alls(4000, eq(v(3999), v(0))), api.OK},
		{nil, alls(4000, eq(v(4000), v(0))), api.ErrScope},
		{numbers, alls(4000, eq(v(4015), v(0))), api.OK},
		{numbers, alls(4000, eq(v(4016), v(0))), api.ErrScope},
		{append(numbers[:15:15], list), alls(4000, eq(v(4000), v(0))), api.ErrType},
		{nil, alls(17, and(all(list, eq(v(1), zero)), eq(v(0), v(16)))), api.OK},
	} {
		must(t, strconv.Itoa(i), formula.Typed(q.context, q.f), q.want)
	}
}

// P7.1: Typed of an equation has the error of terms.TypeOf, also where more types than a context has stand before those of the term.
func TestTypedAsTerms(t *testing.T) {
	var c samples.Choices
	count := map[api.Errno]int{}
	for _, context := range [][]api.Type{context, context[2:]} {
		l := samples.Small(3)
		for range 2000 {
			l = append(l, c.Mixed(4), c.OfType(context, c.Simple(), 4))
		}
		for i, x := range l {
			count[mustTypedAs(t, strconv.Itoa(i), context, x)]++
		}
	}
	for _, err := range []api.Errno{api.OK, api.ErrScope, api.ErrType} {
		must(t, "terms with the error "+strconv.Itoa(int(err)), count[err] > 300, true)
	}
}

// mustTypedAs fails the test if Typed does not find the type of a term, or its error, and returns this error.
func mustTypedAs(t *testing.T, what string, context []api.Type, x api.Term) api.Errno {
	t.Helper()
	u, want := terms.TypeOf(context, x)
	f := eq(app(lam(u, zero), x), zero) // a number exactly if the term has the type u
	if want != api.OK {
		f = eq(x, zero)
	}
	must(t, what, formula.Typed(context, f), want)
	must(t, what+" below quantifiers", formula.Typed(nil, below(context, f)), want)

	// Variables that are not there still are not.
	far, err := formula.Lift(f, len(context), 30)
	must(t, what+": error of Lift", err, api.OK)
	long := append(slices.Repeat([]api.Type{both(unit, unit)}, 30), context...)
	must(t, what+" below more quantifiers", formula.Typed(nil, below(long, far)), want)
	must(t, what+" in part below them", formula.Typed(long[:16], below(long[16:], far)), want)
	if want == api.OK && u.Kind != api.TypeUnit {
		wrong := eq(app(lam(unit, zero), x), zero)
		must(t, what+" with another type", formula.Typed(nil, below(long, wrong)), api.ErrType)
	}
	return want
}

// nodesOf are terms with a node of each kind, with and without the types that it asks for, in a context of more than api.MaxContext types: sixteen units, and those of the tests.
var nodesOf = []struct {
	t    api.Term
	want api.Errno
}{
	{v(0), api.OK}, {v(1), api.ErrType}, {v(3), api.ErrType}, {v(4), api.ErrType}, {v(19), api.ErrType}, {v(20), api.ErrScope},
	{lam(nat, zero), api.ErrType}, {app(lam(nat, v(1)), zero), api.OK}, {app(lam(nat, v(2)), zero), api.ErrType}, {app(lam(nat, v(0)), none), api.ErrType},
	{app(v(2), v(0)), api.OK}, {app(v(2), v(1)), api.ErrType}, {app(v(0), v(0)), api.ErrType}, {app(v(20), v(1)), api.ErrScope}, {app(app(v(0), v(0)), v(20)), api.ErrType},
	{zero, api.OK}, {succ(v(0)), api.OK}, {succ(v(1)), api.ErrType},
	{rec(nat, v(0), lam(nat, v(3)), v(0)), api.OK}, {rec(nat, v(1), lam(nat, v(3)), v(0)), api.ErrType}, {rec(nat, v(0), v(2), v(0)), api.ErrType}, {rec(nat, v(0), lam(nat, v(3)), v(1)), api.ErrType}, {rec(list, v(1), lam(nat, lam(list, v(0))), v(0)), api.ErrType},
	{none, api.ErrType}, {cons(v(0), v(1)), api.ErrType}, {app(lam(list, zero), cons(v(0), v(1))), api.OK}, {app(lam(list, zero), cons(v(1), v(1))), api.ErrType}, {app(lam(list, zero), cons(v(0), v(0))), api.ErrType}, {app(lam(list, zero), none), api.OK},
	{fold(nat, v(0), lam(nat, lam(list, lam(nat, v(3)))), v(1)), api.OK}, {fold(nat, v(0), lam(nat, lam(nat, lam(nat, v(3)))), v(1)), api.ErrType}, {fold(nat, v(0), lam(nat, lam(list, lam(nat, v(3)))), v(0)), api.ErrType},
	{node(api.TermFst, v(3)), api.OK}, {node(api.TermSnd, v(3)), api.ErrType}, {app(lam(list, zero), node(api.TermSnd, v(3))), api.OK}, {node(api.TermFst, v(2)), api.ErrType}, {node(api.TermSnd, v(0)), api.ErrType},
	{pair(v(0), v(0)), api.ErrType}, {node(api.TermSnd, pair(v(1), v(0))), api.OK}, {only, api.ErrType}, {app(lam(unit, zero), only), api.OK}, {app(lam(unit, zero), v(4)), api.OK},
}

// P7.1: the types of all kinds of nodes in contexts beyond api.MaxContext.
func TestNodesInLongContexts(t *testing.T) {
	long := append(slices.Repeat([]api.Type{unit}, api.MaxContext), context...)
	for i, q := range nodesOf {
		must(t, strconv.Itoa(i), formula.Typed(nil, below(long, eq(q.t, zero))), q.want)
		must(t, strconv.Itoa(i)+" on the other side", formula.Typed(long[:16], below(long[16:], eq(zero, q.t))), q.want)
	}
}

// P7.3: Match, and its errors in their order.
func TestMatch(t *testing.T) {
	loop, grow, far := endless(), growing(), v(farthest+1)
	bad, large := eq(zero, v(-1)), eq(num(4094), zero)
	mixed := and(falsum(), eq(zero, zero))
	for i, q := range []struct {
		a, b api.Formula
		want api.Errno
	}{
		{falsum(), falsum(), api.OK},
		{eq(app(id, v(0)), v(1)), eq(v(0), v(1)), api.OK},
		{eq(v(0), app(id, v(1))), eq(v(0), v(1)), api.OK},
		{eq(app(id, v(0)), v(1)), eq(v(0), app(id, v(1))), api.OK},
		{eq(v(0), v(1)), eq(v(1), v(0)), api.ErrMatch},
		{eq(v(0), v(1)), eq(v(0), v(2)), api.ErrMatch},
		{eq(app(id, v(0)), v(1)), eq(v(1), v(1)), api.ErrMatch},
		{eq(lam(nat, app(id, v(0))), zero), eq(id, zero), api.OK},
		{eq(lam(nat, v(0)), zero), eq(lam(list, v(0)), zero), api.ErrMatch},
		{and(eq(app(id, zero), zero), falsum()), and(eq(zero, zero), falsum()), api.OK},
		{and(falsum(), eq(app(id, zero), zero)), and(falsum(), eq(zero, zero)), api.OK},
		{imp(falsum(), falsum()), and(falsum(), falsum()), api.ErrMatch},
		{mixed, and(eq(zero, zero), falsum()), api.ErrMatch},
		{imp(falsum(), falsum()), imp(falsum(), mixed), api.ErrMatch},
		{falsum(), mixed, api.ErrMatch},
		{all(nat, eq(app(id, v(0)), v(1))), all(nat, eq(v(0), v(1))), api.OK},
		{all(nat, falsum()), all(list, falsum()), api.ErrMatch},
		{all(fun(nat, nat), falsum()), all(fun(nat, list), falsum()), api.ErrMatch},
		{all(nat, falsum()), ex(nat, falsum()), api.ErrMatch},
		{ex(nat, falsum()), quant(api.FormExU, nat, falsum()), api.ErrMatch},
		{all(nat, falsum()), falsum(), api.ErrMatch},
		{all(nat, all(nat, falsum())), all(nat, falsum()), api.ErrMatch},
		// Check of both is first.
		{bad, large, api.ErrForm},
		{large, bad, api.ErrSize},
		{falsum(), bad, api.ErrForm},
		{falsum(), large, api.ErrSize},
		{eq(loop, zero), and(falsum(), bad), api.ErrForm},
		{and(eq(loop, zero), large), eq(zero, zero), api.ErrSize},
		{api.Formula{}, api.Formula{}, api.ErrForm},
		{large, large, api.ErrSize},
		// What is the same needs no normal form.
		{eq(loop, grow), eq(loop, grow), api.OK},
		{eq(far, loop), eq(far, loop), api.OK},
		{ex(nat, and(eq(loop, far), falsum())), ex(nat, and(eq(loop, far), eq(app(id, zero), num(1)))), api.OK},
		// The left sides are first, the first one before the second one, and then the right sides.
		{eq(loop, zero), eq(zero, zero), api.ErrSteps},
		{eq(zero, zero), eq(loop, zero), api.ErrSteps},
		{eq(grow, zero), eq(loop, zero), api.ErrSize},
		{eq(loop, zero), eq(grow, zero), api.ErrSteps},
		{eq(far, zero), eq(loop, zero), api.ErrRange},
		{eq(loop, zero), eq(far, zero), api.ErrSteps},
		{eq(zero, far), eq(zero, zero), api.ErrRange},
		{eq(zero, zero), eq(zero, far), api.ErrRange},
		{eq(zero, far), eq(num(1), zero), api.ErrMatch},
		{eq(num(1), zero), eq(zero, grow), api.ErrMatch},
		{eq(zero, grow), eq(app(id, zero), zero), api.ErrSize},
		{eq(zero, loop), eq(zero, far), api.ErrSteps},
		// A node is before its Args, and these from left to right.
		{and(eq(loop, zero), falsum()), imp(falsum(), falsum()), api.ErrMatch},
		{and(eq(loop, zero), falsum()), and(falsum(), all(nat, falsum())), api.ErrSteps},
		{and(falsum(), eq(loop, zero)), and(all(nat, falsum()), falsum()), api.ErrMatch},
		{imp(falsum(), eq(loop, zero)), imp(mixed, eq(far, zero)), api.ErrMatch},
		{imp(eq(grow, zero), eq(loop, zero)), imp(eq(zero, zero), eq(far, zero)), api.ErrSize},
		{imp(and(falsum(), eq(far, zero)), eq(loop, zero)), imp(and(falsum(), eq(zero, zero)), eq(zero, zero)), api.ErrRange},
		{all(nat, eq(loop, zero)), all(list, eq(zero, zero)), api.ErrMatch},
		{all(nat, eq(loop, zero)), quant(api.FormAllU, nat, eq(zero, zero)), api.ErrMatch},
		{all(nat, ex(nat, eq(loop, zero))), all(nat, ex(list, eq(zero, zero))), api.ErrMatch},
		{all(nat, and(eq(loop, zero), falsum())), all(nat, and(eq(zero, zero), mixed)), api.ErrSteps},
	} {
		must(t, strconv.Itoa(i), formula.Match(q.a, q.b), q.want)
	}
}

// P7.3: each side of each equation has api.MaxSteps steps of its own.
func TestMatchSteps(t *testing.T) {
	// Of num(k): a step for each number and two for each call, and one at 0.
	long := rec(nat, zero, lam(nat, lam(nat, succ(v(0)))), num(333))
	longer := app(id, long)
	a, b := eq(long, long), eq(num(333), num(333))
	for i, q := range []struct {
		a, b api.Formula
		want api.Errno
	}{
		{a, b, api.OK},
		{b, a, api.OK},
		{and(a, all(nat, a)), and(b, all(nat, b)), api.OK},
		{eq(long, zero), eq(num(332), zero), api.ErrMatch},
		{eq(longer, zero), eq(num(333), zero), api.ErrSteps},
		{eq(num(333), zero), eq(longer, zero), api.ErrSteps},
		{eq(zero, num(333)), eq(zero, longer), api.ErrSteps},
		{eq(longer, zero), eq(longer, zero), api.OK},
		{eq(longer, zero), eq(long, zero), api.ErrSteps},
	} {
		must(t, strconv.Itoa(i), formula.Match(q.a, q.b), q.want)
	}
}

// P7.4: False, Not and Or.
func TestMade(t *testing.T) {
	must(t, "False", formula.False(), eq(zero, succ(zero)))
	l := []api.Formula{falsum(), eq(v(0), v(3)), all(list, eq(v(0), v(1))), imp(eq(v(2), zero), ex(nat, and(eq(v(0), v(1)), falsum()))), eq(v(farthest), zero)}
	for i, a := range l {
		not, err := formula.Not(a)
		mustFormula(t, strconv.Itoa(i)+" Not", not, err, imp(a, eq(zero, succ(zero))), api.OK)
		for j, b := range l {
			left, _ := formula.Lift(a, 0, 1)
			right, _ := formula.Lift(b, 0, 1)
			first := eq(v(0), zero)
			want := ex(nat, and(imp(first, left), imp(imp(first, falsum()), right)))
			or, err := formula.Or(a, b)
			mustFormula(t, strconv.Itoa(i)+" Or "+strconv.Itoa(j), or, err, want, api.OK)
		}
	}
	or, err := formula.Or(eq(v(0), v(1)), all(nat, eq(v(0), v(1))))
	want := ex(nat, and(imp(eq(v(0), zero), eq(v(1), v(2))), imp(imp(eq(v(0), zero), falsum()), all(nat, eq(v(0), v(2))))))
	mustFormula(t, "Or with variables", or, err, want, api.OK)
}

// P7.4: the errors of Not and Or, in their order.
func TestMadeErrors(t *testing.T) {
	bad, large, far := eq(zero, v(-1)), eq(num(4094), zero), eq(v(farthest+1), zero)
	for i, q := range []struct {
		f    api.Formula
		want api.Errno
	}{
		{bad, api.ErrForm},
		{large, api.ErrSize},
		{far, api.OK}, // nothing is lifted
		{eq(v(greatest), zero), api.OK},
		{eq(num(4088), zero), api.OK}, // 4091 nodes, and 5 more
		{eq(num(4089), zero), api.ErrSize},
		{alls(4087, falsum()), api.OK},
		{alls(4088, falsum()), api.ErrSize},
		{eq(num(4093), zero), api.ErrSize},
	} {
		got, err := formula.Not(q.f)
		must(t, strconv.Itoa(i)+" Not", err, q.want)
		size, _ := formula.Size(q.f)
		made, _ := formula.Size(got)
		must(t, strconv.Itoa(i)+" nodes of Not", err != api.OK || made == size+5, true)
	}
	half := eq(num(2037), num(0)) // 2040 nodes
	for i, q := range []struct {
		a, b api.Formula
		want api.Errno
	}{
		{bad, large, api.ErrForm},
		{large, bad, api.ErrSize},
		{far, bad, api.ErrRange},
		{far, large, api.ErrRange},
		{falsum(), bad, api.ErrForm},
		{falsum(), large, api.ErrSize},
		{falsum(), far, api.ErrRange},
		{eq(num(4093), zero), far, api.ErrRange},
		{eq(num(4093), zero), bad, api.ErrForm},
		{falsum(), eq(zero, v(greatest)), api.ErrRange},
		{half, eq(num(2038), zero), api.OK}, // 2040 and 2041 nodes, and 15 more
		{half, eq(num(2039), zero), api.ErrSize},
		{eq(num(2039), zero), half, api.ErrSize},
		{falsum(), eq(num(4074), zero), api.OK},
		{falsum(), eq(num(4075), zero), api.ErrSize},
		{eq(zero, num(4074)), falsum(), api.OK},
		{eq(zero, num(4075)), falsum(), api.ErrSize},
	} {
		got, err := formula.Or(q.a, q.b)
		must(t, strconv.Itoa(i)+" Or", err, q.want)
		must(t, strconv.Itoa(i)+" result with an error", err == api.OK || reflect.DeepEqual(got, api.Formula{}), true)
	}
	full, _ := formula.Or(half, eq(num(2038), zero))
	size, err := formula.Size(full)
	must(t, "as many nodes as may be", []any{size, err}, []any{api.MaxFormula, api.OK})
}

// R2: arguments stay as they were, and so does what lies behind them in their memory.
func TestArgumentsStay(t *testing.T) {
	mark := tree(77, nat, nil)
	marked := func(f api.Formula) api.Formula {
		f.Terms = append(f.Terms, node(77))[:len(f.Terms)]
		f.Args = append(f.Args, mark)[:len(f.Args)]
		f.Type.Args = append(f.Type.Args, list)[:len(f.Type.Args)]
		return f
	}
	f := marked(all(fun(nat, nat), marked(imp(marked(ex(nat, marked(eq(app(v(1), v(0)), v(2))))), marked(eq(v(1), app(lam(nat, v(2)), v(0))))))))
	s := pair(v(0), v(1))
	s.Args = append(s.Args, node(77))[:2]
	c := append(slices.Clone(context), unit, list, unit, list)[:4]
	wasF, wasS, wasC := samples.DeepFormula(f), samples.Deep(s), slices.Clone(c[:8])

	formula.Typed(c, f)
	formula.Typed(c[:2], alls(20, f))
	formula.Lift(f, 0, 1)
	formula.Lower(f, 5)
	formula.Put(f, 0, s)
	formula.Put(f, 1, s)
	formula.Uses(f)
	formula.Same(f, f)
	formula.Match(f, wasF)
	formula.Not(f)
	formula.Or(f, f)
	errorOf(t, "f", f)

	must(t, "formula", samples.DeepFormula(f), wasF)
	must(t, "term", samples.Deep(s), wasS)
	must(t, "context and what lies behind it", c[:8], wasC)
	must(t, "behind a term", s.Args[:3][2], node(77))
	must(t, "behind all", []any{f.Args[:2][1], f.Terms[:1][0], f.Type.Args[:3][2]}, []any{mark, node(77), list})
	b := f.Args[0]
	must(t, "behind an implication", []any{b.Args[:3][2], b.Terms[:1][0], b.Type.Args[:1][0]}, []any{mark, node(77), list})
	e := b.Args[1]
	must(t, "behind an equation", []any{e.Args[:1][0], e.Terms[:3][2], e.Type.Args[:1][0]}, []any{mark, node(77), list})
}

// P7.1: a type that has more than api.MaxType nodes is no type of a quantifier, and one of exactly as many is.
func TestTypesOfQuantifiers(t *testing.T) {
	most := both(nat, wide(31, nat)) // 65 nodes
	must(t, "nodes", types.Check(most), api.ErrSize)
	for _, kind := range samples.Quantifiers() {
		must(t, "63 nodes", formula.Check(quant(kind, wide(31, nat), falsum())), api.OK)
		must(t, "65 nodes", formula.Check(quant(kind, most, falsum())), api.ErrForm)
	}
}
