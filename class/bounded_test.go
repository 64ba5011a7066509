package class_test

import (
	"slices"
	"strconv"
	"testing"

	"proofprograms/api"
	"proofprograms/class"
	"proofprograms/formula"
	"proofprograms/samples"
	"proofprograms/subst"
	"proofprograms/value"
)

// mustNoBound fails the test if Bound takes a tree for a bounded quantifier.
func mustNoBound(t *testing.T, what string, x api.Formula) {
	t.Helper()
	every, limit, body, ok := class.Bound(x)
	must(t, what+": no bounded quantifier", []any{every, limit, body, ok}, []any{false, api.Term{}, api.Formula{}, false})
}

// P8.1: Less, as it is written out.
func TestLess(t *testing.T) {
	must(t, "difference", sub(), value.Sub())
	for i, q := range [][2]api.Term{
		{zero, zero}, {num(1), num(2)}, {num(2), num(1)}, {v(0), v(0)}, {v(0), succ(v(2))}, {v(3), v(7)}, {v(greatest), v(greatest)},
		{none, only}, {lam(nat, v(0)), app(v(0), v(1))}, {num(2037), num(2036)}, {num(4073), zero}, {zero, num(4073)}, {full(10), above(2027, none)},
	} {
		want := api.Formula{Kind: api.FormEq, Terms: []api.Term{
			node(api.TermApp, node(api.TermApp, value.Sub(), node(api.TermSucc, q[0])), q[1]),
			{Kind: api.TermZero},
		}}
		got, err := class.Less(q[0], q[1])
		mustFormula(t, strconv.Itoa(i), got, err, want, api.OK)
	}
	got, _ := class.Less(num(4073), zero)
	size, _ := formula.Size(got)
	must(t, "nodes", size, api.MaxFormula)
}

// P8.1: the errors of Less, in their order.
func TestLessErrors(t *testing.T) {
	bad, most, large := node(0), num(4095), num(4096)
	for i, q := range []struct {
		s, t api.Term
		want api.Errno
	}{
		{bad, zero, api.ErrForm},
		{zero, bad, api.ErrForm},
		{bad, large, api.ErrForm},
		{bad, bad, api.ErrForm},
		{large, bad, api.ErrSize},
		{large, zero, api.ErrSize},
		{zero, large, api.ErrSize},
		{most, bad, api.ErrForm},
		{num(4094), bad, api.ErrForm},
		{num(4074), zero, api.ErrSize},
		{zero, num(4074), api.ErrSize},
		{num(2037), num(2037), api.ErrSize},
		{num(4075), zero, api.ErrSize}, // the left side has as many nodes as may be
		{num(4076), zero, api.ErrSize},
		{zero, num(4076), api.ErrSize},
		{most, zero, api.ErrSize},
		{zero, most, api.ErrSize},
		{most, most, api.ErrSize},
		{v(-1), zero, api.ErrForm},
		{zero, v(-greatest - 1), api.ErrForm},
		{above(1<<16, zero), zero, api.ErrSize},
		{zero, above(1<<16, bad), api.ErrForm},
	} {
		got, err := class.Less(q.s, q.t)
		mustFormula(t, strconv.Itoa(i), got, err, api.Formula{}, q.want)
	}
	for i, x := range samples.WrongTerms() {
		for _, y := range []api.Term{x, lam(nat, pair(zero, x)), above(5000, x)} {
			got, err := class.Less(y, large)
			mustFormula(t, strconv.Itoa(i)+" first", got, err, api.Formula{}, api.ErrForm)
			got, err = class.Less(most, y)
			mustFormula(t, strconv.Itoa(i)+" second", got, err, api.Formula{}, api.ErrForm)
		}
	}
}

// P8.2: Bounded, and Bound of it.
func TestBounded(t *testing.T) {
	e := eq(v(0), v(1))
	for i, q := range []struct {
		t, lifted api.Term
		f         api.Formula
	}{
		{zero, zero, e},
		{num(3), num(3), falsum()},
		{v(0), v(1), e},
		{v(4), v(5), all(nat, e)},
		{succ(v(2)), succ(v(3)), ex(nat, and(e, falsum()))},
		{lam(nat, v(0)), lam(nat, v(0)), e},
		{lam(nat, v(1)), lam(nat, v(2)), e},
		{app(lam(list, lam(nat, app(v(0), v(1), v(2)))), v(0)), app(lam(list, lam(nat, app(v(0), v(1), v(3)))), v(1)), e},
		{rec(nat, v(0), v(1), v(2)), rec(nat, v(1), v(2), v(3)), e},
		{none, none, e}, // no types of terms are asked for
		{v(farthest), v(farthest + 1), e},
		{zero, zero, eq(v(greatest), zero)}, // f is not lifted
		{v(1), v(2), allBelow(v(1), exBelow(v(0), e))},
		{num(4067), num(4067), falsum()},
		{above(4067, v(0)), above(4067, v(1)), falsum()},
		{num(2000), num(2000), eq(num(2068), zero)},
		{zero, zero, alls(4067, falsum())},
	} {
		what := strconv.Itoa(i)
		for every, want := range map[bool]api.Formula{
			true:  {Kind: api.FormAll, Type: nat, Args: []api.Formula{imp(less(v(0), q.lifted), q.f)}},
			false: {Kind: api.FormEx, Type: nat, Args: []api.Formula{and(less(v(0), q.lifted), q.f)}},
		} {
			got, err := class.Bounded(every, q.t, q.f)
			mustFormula(t, what, got, err, want, api.OK)
			is, limit, body, ok := class.Bound(want)
			must(t, what+": parts", []any{is, samples.Deep(limit), body, ok}, []any{every, samples.Deep(q.t), q.f, true})
		}
	}
	got, _ := class.Bounded(true, num(4067), falsum())
	size, _ := formula.Size(got)
	must(t, "nodes", size, api.MaxFormula)
}

// P8.2: the errors of Bounded, in their order.
func TestBoundedErrors(t *testing.T) {
	bad, large, far := eq(zero, v(-1)), eq(num(4094), zero), v(farthest+1)
	for i, q := range []struct {
		t    api.Term
		f    api.Formula
		want api.Errno
	}{
		{node(0), falsum(), api.ErrForm},
		{node(0), large, api.ErrForm},
		{v(-1), large, api.ErrForm},
		{pair(far, node(0)), bad, api.ErrForm},
		{num(4096), bad, api.ErrSize},
		{above(4096, far), bad, api.ErrSize},
		{far, bad, api.ErrRange},
		{far, large, api.ErrRange},
		{far, falsum(), api.ErrRange},
		{v(greatest), falsum(), api.ErrRange},
		{above(4095, far), bad, api.ErrRange},
		{lam(nat, far), bad, api.ErrRange},
		{zero, bad, api.ErrForm},
		{zero, api.Formula{}, api.ErrForm},
		{zero, large, api.ErrSize},
		{num(4095), bad, api.ErrForm},
		{num(4095), falsum(), api.ErrSize},
		{num(4075), bad, api.ErrForm},
		{num(4074), falsum(), api.ErrSize}, // Less alone has too many nodes
		{num(4073), falsum(), api.ErrSize},
		{num(4068), falsum(), api.ErrSize},
		{above(4068, v(farthest)), falsum(), api.ErrSize},
		{num(2000), eq(num(2069), zero), api.ErrSize},
		{zero, alls(4068, falsum()), api.ErrSize},
		{zero, alls(4092, falsum()), api.ErrSize},
		{num(4095), eq(num(4093), zero), api.ErrSize},
		{above(1<<16, zero), bad, api.ErrSize},
		{above(1<<16, node(0)), falsum(), api.ErrForm},
	} {
		for _, every := range []bool{true, false} {
			got, err := class.Bounded(every, q.t, q.f)
			mustFormula(t, strconv.Itoa(i), got, err, api.Formula{}, q.want)
		}
	}
	for i, x := range samples.WrongTerms() {
		got, err := class.Bounded(i%2 == 0, lam(nat, pair(zero, x)), large)
		mustFormula(t, "term "+strconv.Itoa(i), got, err, api.Formula{}, api.ErrForm)
	}
	for i, x := range samples.WrongFormulas() {
		got, err := class.Bounded(i%2 == 0, num(4095), and(falsum(), x))
		mustFormula(t, "formula "+strconv.Itoa(i), got, err, api.Formula{}, api.ErrForm)
	}
}

// P8.2: Bound of limits that are no Lift because of the bound number, and of those that are one all the same.
func TestLimits(t *testing.T) {
	for i, q := range []struct {
		limit, want api.Term
		is          bool
	}{
		{v(0), api.Term{}, false},
		{succ(v(0)), api.Term{}, false},
		{above(3000, v(0)), api.Term{}, false},
		{pair(v(1), v(0)), api.Term{}, false},
		{lam(nat, v(1)), api.Term{}, false},
		{lam(nat, lam(nat, app(v(0), v(1), v(2)))), api.Term{}, false},
		{app(lam(nat, v(0)), v(0)), api.Term{}, false},
		{rec(nat, v(1), v(2), v(0)), api.Term{}, false},
		{app(lam(nat, v(2)), lam(nat, v(1))), api.Term{}, false},
		{app(lam(nat, v(0)), v(1)), app(lam(nat, v(0)), v(0)), true},
		{lam(nat, lam(nat, app(v(0), v(1), v(3)))), lam(nat, lam(nat, app(v(0), v(1), v(2)))), true},
		{v(1), v(0), true},
		{v(farthest), v(farthest - 1), true},
		{v(farthest + 1), v(farthest), true},
		{v(farthest + 2), v(farthest + 1), true}, // also where Bounded refuses to lift what is returned
		{pair(v(2), v(greatest)), pair(v(1), v(greatest-1)), true},
		{pair(v(0), v(greatest)), api.Term{}, false},
		{lam(nat, v(greatest)), lam(nat, v(greatest-1)), true},
	} {
		what := strconv.Itoa(i)
		for every, f := range map[bool]api.Formula{true: allBelow(q.limit, falsum()), false: exBelow(q.limit, falsum())} {
			must(t, what+": decidable", kindsOf(t, what, f).decidable, q.is)
			if !q.is {
				mustNoBound(t, what, f)
				continue
			}
			is, limit, body, ok := class.Bound(f)
			must(t, what, []any{is, samples.Deep(limit), body, ok}, []any{every, q.want, falsum(), true})
		}
	}
}

// P8.2: nil and empty slices are one.
func TestEmptySlices(t *testing.T) {
	limit := api.Term{Kind: api.TermZero, Type: api.Type{Args: []api.Type{}}, Args: []api.Term{}}
	premise := less(api.Term{Kind: api.TermVar, Args: []api.Term{}}, limit)
	premise.Args, premise.Type.Args = []api.Formula{}, []api.Type{}
	premise.Terms[1].Args = []api.Term{}
	inner := api.Formula{Kind: api.FormAnd, Type: api.Type{Args: []api.Type{}}, Terms: []api.Term{}, Args: []api.Formula{premise, falsum()}}
	f := api.Formula{Kind: api.FormEx, Type: api.Type{Kind: api.TypeNat, Args: []api.Type{}}, Terms: []api.Term{}, Args: []api.Formula{inner}}
	is, got, body, ok := class.Bound(f)
	must(t, "parts", []any{is, samples.Deep(got), body, ok}, []any{false, zero, falsum(), true})
	must(t, "kinds", kindsOf(t, "kinds", f), kinds{content: true, decidable: true})
	front, some, _, ok := class.Task(f)
	must(t, "task", []any{front, some.Kind, ok}, []any{[]api.Type(nil), api.TypeNat, true})
}

// P8.2 and P8.3: quantifiers that look like bounded ones, and are none.
func TestNoBounds(t *testing.T) {
	e, l := falsum(), less(v(0), v(1))
	id := lam(nat, v(0))
	l2 := func(s, t api.Term) api.Formula { return eq(app(s, t), zero) }
	for i, f := range []api.Formula{
		e, l, and(l, e), imp(l, e), and(allBelow(zero, e), e), imp(e, exBelow(zero, e)),
		all(nat, l), ex(nat, l), all(nat, and(l, e)), ex(nat, imp(l, e)), all(nat, imp(e, l)), ex(nat, and(e, l)), all(nat, imp(e, e)), ex(nat, and(e, e)),
		allU(nat, imp(l, e)), allU(nat, and(l, e)), exU(nat, and(l, e)), exU(nat, imp(l, e)),
		all(list, imp(l, e)), ex(list, and(l, e)), all(unit, imp(l, e)), ex(fun(nat, nat), and(l, e)), all(both(nat, nat), imp(l, e)), ex(wide(31, nat), and(l, e)),
		all(nat, imp(and(l, e), e)), all(nat, imp(imp(l, e), e)), ex(nat, and(allBelow(v(1), e), e)), all(nat, imp(allBelow(v(1), e), e)), all(nat, imp(all(nat, l), e)),
		all(nat, all(nat, imp(l, e))), ex(nat, ex(nat, and(l, e))), all(nat, ex(nat, and(l, e))), allU(nat, allBelow(zero, e)), exU(nat, exBelow(zero, e)),
		// Another number than the bound one.
		all(nat, imp(less(v(1), v(1)), e)), ex(nat, and(less(v(1), v(2)), e)), all(nat, imp(less(succ(v(0)), v(1)), e)), all(nat, imp(less(zero, v(1)), e)),
		// Other equations, the same ones up to normal forms among them.
		all(nat, imp(eq(zero, l.Terms[0]), e)), all(nat, imp(eq(l.Terms[0], num(1)), e)), all(nat, imp(eq(l.Terms[0], app(id, zero)), e)), all(nat, imp(eq(l.Terms[0], l.Terms[0]), e)),
		all(nat, imp(eq(app(id, l.Terms[0]), zero), e)), all(nat, imp(l2(app(sub(), app(id, succ(v(0)))), v(1)), e)), all(nat, imp(l2(app(app(id, sub()), succ(v(0))), v(1)), e)),
		all(nat, imp(l2(app(sub(), v(0)), v(1)), e)), all(nat, imp(l2(app(sub(), v(1)), succ(v(0))), e)), all(nat, imp(l2(sub(), v(1)), e)), all(nat, imp(eq(app(sub(), succ(v(0)), v(1), v(1)), zero), e)),
		all(nat, imp(eq(v(0), v(1)), e)), all(nat, imp(eq(zero, zero), e)), all(nat, imp(eq(app(v(0), v(1)), zero), e)), all(nat, imp(eq(app(v(0), v(1), v(2)), zero), e)),
		all(nat, imp(l2(app(value.Plus(), succ(v(0))), v(1)), e)), all(nat, imp(l2(app(value.Times(), succ(v(0))), v(1)), e)), all(nat, imp(l2(app(value.Distance(), succ(v(0))), v(1)), e)),
		all(nat, imp(l2(app(value.Pred(), succ(v(0))), v(1)), e)), ex(nat, and(eq(pair(pair(sub(), succ(v(0))), v(1)), zero), e)),
	} {
		mustNoBound(t, strconv.Itoa(i), f)
		must(t, strconv.Itoa(i)+": Bound is literal", bounded(f), isBounded(f))
	}
}

// changes returns valid terms in which one node of a term is another one, outside of the part at skip (a way of Args from the root).
func changes(t api.Term, skip []int) []api.Term {
	if skip != nil && len(skip) == 0 {
		return nil
	}
	l := []api.Term{succ(t), node(api.TermFst, t), lam(nat, t), v(9)}
	other := t
	switch t.Kind {
	case api.TermVar:
		for _, i := range []int{0, 1, 2, t.Index + 1, t.Index + 1<<32, greatest} {
			if i != t.Index {
				l = append(l, v(i))
			}
		}
	case api.TermApp:
		other.Kind = api.TermPair
		l = append(l, other)
		other.Kind = api.TermCons
		l = append(l, other, node(api.TermApp, t.Args[1], t.Args[0]), t.Args[0], t.Args[1])
	case api.TermLam:
		other.Type = list
		l = append(l, other, t.Args[0], succ(t.Args[0]))
		other.Type = both(nat, nat)
		l = append(l, other)
	case api.TermRec:
		other.Type = list
		l = append(l, other)
		other = t
		other.Kind = api.TermFold
		l = append(l, other)
	default:
		l = append(l, none, only)
	}
	for i, a := range t.Args {
		var rest []int
		if skip != nil && skip[0] == i {
			rest = append([]int{}, skip[1:]...)
		}
		for _, b := range changes(a, rest) {
			x := t
			x.Args = slices.Clone(t.Args)
			x.Args[i] = b
			l = append(l, x)
		}
	}
	return l
}

// P8.2: one node that is another one makes what is said of the number something else than Less, but for the nodes of the limit.
func TestOneNode(t *testing.T) {
	right := less(v(0), succ(v(1)))
	lefts := changes(right.Terms[0], []int{1})
	must(t, "changes", len(lefts) > 100, true)
	var l []api.Formula
	for _, x := range lefts {
		l = append(l, eq(x, zero))
	}
	for _, x := range changes(zero, nil) {
		l = append(l, eq(right.Terms[0], x))
	}
	for i, premise := range l {
		what := strconv.Itoa(i)
		must(t, what+": valid", formula.Check(premise), api.OK)
		for _, f := range []api.Formula{all(nat, imp(premise, falsum())), ex(nat, and(premise, falsum()))} {
			mustNoBound(t, what, f)
			must(t, what+": decidable", kindsOf(t, what, f).decidable, false)
		}
	}
	for i, limit := range changes(app(v(1), succ(zero)), nil) {
		_, wantErr := subst.Lower(limit, 0)
		must(t, "limit "+strconv.Itoa(i), bounded(allBelow(limit, falsum())), wantErr == api.OK)
	}
}
