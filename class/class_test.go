package class_test

import (
	"fmt"
	"reflect"
	"slices"
	"strconv"
	"testing"

	"proofprograms/api"
	"proofprograms/class"
	"proofprograms/formula"
	"proofprograms/samples"
)

// The calls have exactly these signatures.
var (
	_ func(f api.Formula) (bool, api.Errno)                              = class.Content
	_ func(f api.Formula) (bool, api.Errno)                              = class.Free
	_ func(s, t api.Term) (api.Formula, api.Errno)                       = class.Less
	_ func(all bool, t api.Term, f api.Formula) (api.Formula, api.Errno) = class.Bounded
	_ func(f api.Formula) (bool, api.Term, api.Formula, bool)            = class.Bound
	_ func(f api.Formula) (bool, api.Errno)                              = class.Decidable
	_ func(f api.Formula) ([]api.Type, api.Formula, api.Errno)           = class.Universal
	_ func(f api.Formula) ([]api.Type, api.Type, api.Formula, bool)      = class.Task
)

// What the tests are made of.
var (
	nat, list, unit  = samples.Nat, samples.List, samples.Unit
	zero, none, only = samples.Zero, samples.None, samples.Only
	both, fun, wide  = samples.Both, samples.Fun, samples.Wide

	node, v, lam, app = samples.Node, samples.Var, samples.Lam, samples.App
	succ, pair, rec   = samples.Succ, samples.Pair, samples.Rec
	above, full, num  = samples.Above, samples.Full, samples.Number

	tree, quant, falsum = samples.Tree, samples.Quant, samples.Falsum
	eq, and, imp        = samples.Eq, samples.And, samples.Imp
	all, ex             = samples.All, samples.Ex
	alls, ands, imps    = samples.Alls, samples.Ands, samples.Imps

	sub, less         = samples.Sub, samples.Less
	allBelow, exBelow = samples.AllBelow, samples.ExBelow
	nested            = samples.Nested
)

// allU returns a uniform formula for all things of a type, exU one for some thing.
func allU(s api.Type, f api.Formula) api.Formula { return quant(api.FormAllU, s, f) }
func exU(s api.Type, f api.Formula) api.Formula  { return quant(api.FormExU, s, f) }

// The greatest Index that may be lifted, and the greatest number.
const (
	farthest = 1 << 29
	greatest = 1<<63 - 1
)

// must fails the test if what a call returned is not what it should be (reflect tells nil from empty slices apart: nil is the zero value).
func must(t *testing.T, what string, got, want any) {
	t.Helper()
	if !reflect.DeepEqual(got, want) {
		t.Errorf("%s: got %.400s, want %.400s", what, fmt.Sprintf("%+v", got), fmt.Sprintf("%+v", want))
	}
}

// mustFormula fails the test if a call did not return this formula and this error, or anything else with an error.
func mustFormula(t *testing.T, what string, got api.Formula, err api.Errno, want api.Formula, wantErr api.Errno) {
	t.Helper()
	if err != wantErr || !formula.Same(got, want) {
		t.Errorf("%s: got %.300s, %d, want %.300s, %d", what, fmt.Sprint(got), err, fmt.Sprint(want), wantErr)
	}
	if err != api.OK {
		must(t, what+": result with an error", got, api.Formula{})
	}
}

// kinds are what Content, Free and Decidable say of a formula.
type kinds struct{ content, free, decidable bool }

// kindsOf returns what the calls say of a formula without an error.
func kindsOf(t *testing.T, what string, f api.Formula) kinds {
	t.Helper()
	content, e1 := class.Content(f)
	free, e2 := class.Free(f)
	decidable, e3 := class.Decidable(f)
	must(t, what+": errors", []api.Errno{e1, e2, e3}, make([]api.Errno, 3))
	return kinds{content, free, decidable}
}

// P8.1 and P8.3: Content, Free and Decidable.
func TestKinds(t *testing.T) {
	e, some := falsum(), ex(nat, eq(v(0), v(1)))
	every, few, one := all(nat, eq(v(0), zero)), allBelow(v(3), eq(v(0), v(2))), exBelow(num(4), eq(v(0), v(2)))
	equation, plain, content, bounded := kinds{false, true, true}, kinds{}, kinds{content: true}, kinds{decidable: true}
	found := kinds{content: true, decidable: true}
	for i, q := range []struct {
		f    api.Formula
		want kinds
	}{
		{e, equation}, {eq(none, app(zero, only)), equation}, {eq(v(greatest), full(9)), equation},
		{and(e, e), equation}, {and(e, some), content}, {and(some, e), content}, {and(some, some), content}, {and(e, every), plain}, {and(every, e), plain},
		{imp(e, e), equation}, {imp(some, e), plain}, {imp(e, some), content}, {imp(some, some), content}, {imp(every, e), plain}, {imp(e, every), plain},
		{imp(and(some, e), e), plain}, {imp(e, and(e, some)), content}, {imp(imp(some, e), e), plain}, {and(imp(some, e), e), plain}, {imp(e, imp(some, some)), content},
		{and(and(e, e), imp(e, imp(e, e))), equation}, {and(and(e, e), imp(e, imp(e, every))), plain}, {and(and(e, and(e, some)), imp(e, e)), content},
		{every, plain}, {all(list, e), plain}, {all(nat, some), content}, {all(nat, every), plain},
		{some, content}, {ex(unit, e), content}, {ex(nat, every), content}, {ex(nat, imp(some, e)), content},
		{allU(nat, e), plain}, {allU(nat, some), content}, {allU(nat, every), plain}, {exU(nat, e), plain}, {exU(nat, some), content}, {exU(fun(nat, nat), every), plain},
		{all(nat, imp(some, e)), plain}, {exU(nat, imp(some, e)), plain}, {allU(nat, and(some, e)), content}, {all(nat, exU(list, allU(unit, imp(e, some)))), content},
		{few, bounded}, {one, found}, {and(few, e), bounded}, {and(one, few), found}, {imp(one, few), bounded}, {imp(few, one), found}, {imp(one, every), plain}, {and(every, one), content},
		{allBelow(zero, few), bounded}, {allBelow(zero, one), found}, {exBelow(v(1), few), found}, {exBelow(v(2), one), found},
		{allBelow(zero, every), plain}, {allBelow(zero, some), content}, {exBelow(v(1), every), content}, {exBelow(v(2), some), content},
		{allBelow(zero, and(few, imp(one, e))), bounded}, {allBelow(zero, and(few, imp(every, e))), plain}, {exBelow(v(2), imp(some, one)), content},
		{all(nat, few), plain}, {all(nat, one), content}, {ex(nat, few), content}, {ex(nat, one), content}, {allU(nat, few), plain}, {exU(nat, one), content},
		{allBelow(v(0), e), plain}, {exBelow(succ(v(0)), e), content}, {allBelow(v(0), one), content}, // the number below itself
		{all(nat, and(less(v(0), v(1)), e)), plain}, {ex(nat, imp(less(v(0), v(1)), e)), content}, // All with And, Ex with Imp
		{allU(nat, imp(less(v(0), v(1)), e)), plain}, {exU(nat, and(less(v(0), v(1)), e)), plain},
		{all(list, imp(less(v(0), v(1)), e)), plain}, {ex(unit, and(less(v(0), v(1)), e)), content},
		{all(nat, imp(e, less(v(0), v(1)))), plain}, {ex(nat, and(e, less(v(0), v(1)))), content},
		{all(nat, imp(less(v(0), v(1)), all(nat, imp(less(v(1), v(2)), e)))), plain},
	} {
		what := strconv.Itoa(i)
		must(t, what, kindsOf(t, what, q.f), q.want)
	}
}

// hasContent, isFree and isDecidable are Content, Free and Decidable of a valid formula, as the chapter defines them one by one.
func hasContent(f api.Formula) bool {
	switch f.Kind {
	case api.FormEq:
		return false
	case api.FormAnd:
		return hasContent(f.Args[0]) || hasContent(f.Args[1])
	case api.FormEx:
		return true
	}
	return hasContent(f.Args[len(f.Args)-1])
}

func isFree(f api.Formula) bool {
	return !slices.Contains(samples.Quantifiers(), f.Kind) && !slices.ContainsFunc(f.Args, func(a api.Formula) bool { return !isFree(a) })
}

func isDecidable(f api.Formula) bool {
	switch f.Kind {
	case api.FormEq:
		return true
	case api.FormAnd, api.FormImp:
		return isDecidable(f.Args[0]) && isDecidable(f.Args[1])
	}
	return isBounded(f) && isDecidable(f.Args[0].Args[1])
}

// isBounded reports whether a valid formula is, as it is printed, a bounded quantifier.
func isBounded(f api.Formula) bool {
	if f.Kind == api.FormEq || len(f.Args[0].Args) != 2 {
		return false
	}
	inner := f.Args[0].Args
	if len(inner[0].Terms) == 0 || len(inner[0].Terms[0].Args) != 2 {
		return false
	}
	t := inner[0].Terms[0].Args[1]
	is := func(g api.Formula) bool { return fmt.Sprint(f) == fmt.Sprint(g) }
	return !occurs(t, 0) && (is(allBelow(t, inner[1])) || is(exBelow(t, inner[1])))
}

// occurs reports whether a free variable stands in a term.
func occurs(t api.Term, i int) bool {
	if t.Kind == api.TermLam {
		i++
	}
	return t.Kind == api.TermVar && t.Index == i || slices.ContainsFunc(t.Args, func(a api.Term) bool { return occurs(a, i) })
}

// over returns many formulas made of one: quantifiers of all kinds, bounded ones, and some that look like these.
func over(f api.Formula) []api.Formula {
	var l []api.Formula
	for _, kind := range samples.Quantifiers() {
		l = append(l, quant(kind, nat, f), quant(kind, list, f))
		l = append(l, quant(kind, nat, imp(less(v(0), v(1)), f)), quant(kind, nat, and(less(v(0), lam(nat, v(0))), f)))
	}
	return append(l,
		allBelow(v(0), f), exBelow(lam(nat, v(1)), f), all(list, imp(less(v(0), v(1)), f)),
		all(nat, imp(less(v(1), zero), f)), ex(nat, and(f, less(v(0), zero))), all(nat, imp(f, f)), ex(nat, and(eq(v(0), zero), f)))
}

// P8.1 and P8.3: what the chapter defines, for all formulas that are put together of these ways.
func TestKindsOfMany(t *testing.T) {
	first := []api.Formula{falsum(), ex(nat, falsum()), all(nat, falsum())}
	l := slices.Clone(first)
	for range 2 {
		var next []api.Formula
		for _, a := range l {
			next = append(next, over(a)...)
			for _, b := range append(slices.Clone(first), l[len(l)-1]) {
				next = append(next, and(a, b), and(b, a), imp(a, b), imp(b, a))
			}
		}
		l = append(l, next...)
	}
	c := samples.Choices{State: 8}
	for range 500 {
		l = append(l, c.Loose(5), c.Decidable(nil, 5))
	}
	count := map[kinds]int{}
	for i, f := range l {
		what := strconv.Itoa(i)
		want := kinds{hasContent(f), isFree(f), isDecidable(f)}
		must(t, what, kindsOf(t, what, f), want)
		must(t, what+": Bound", bounded(f), isBounded(f))
		count[want]++
	}
	// All that there are: what is free has no content and is decidable.
	for _, k := range []kinds{{}, {content: true}, {decidable: true}, {content: true, decidable: true}, {free: true, decidable: true}} {
		must(t, fmt.Sprintf("formulas that are %+v", k), count[k] > 100, true)
	}
	must(t, "other formulas", len(count), 5)
}

// bounded reports whether Bound says that a formula is a bounded quantifier.
func bounded(f api.Formula) bool {
	_, _, _, is := class.Bound(f)
	return is
}

// errorOf returns what formula.Check says of a tree, and fails if it is an error and any call does not name it, or returns anything else with it.
func errorOf(t *testing.T, what string, x api.Formula) api.Errno {
	t.Helper()
	want := formula.Check(x)
	if want == api.OK {
		return want
	}
	content, e1 := class.Content(x)
	free, e2 := class.Free(x)
	decidable, e3 := class.Decidable(x)
	front, below, e4 := class.Universal(x)
	some, e5 := class.Bounded(true, zero, x)
	other, e6 := class.Bounded(false, zero, x)
	must(t, what+": errors", []api.Errno{e1, e2, e3, e4, e5, e6}, slices.Repeat([]api.Errno{want}, 6))
	must(t, what+": results", []any{content, free, decidable, front}, []any{false, false, false, []api.Type(nil)})
	must(t, what+": formulas", []api.Formula{below, some, other}, make([]api.Formula, 3))
	mustNoBound(t, what, x)
	mustNoTask(t, what, x)
	return want
}

// mustNoTask fails the test if Task takes a tree for a task.
func mustNoTask(t *testing.T, what string, x api.Formula) {
	t.Helper()
	front, some, body, ok := class.Task(x)
	must(t, what+": no task", []any{front, some, body, ok}, []any{[]api.Type(nil), api.Type{}, api.Formula{}, false})
}

// P8.1 to P8.3: a node that is not as it should be, at any place of a tree of any size.
func TestForm(t *testing.T) {
	many := samples.FullFormula(11)
	for i, bad := range samples.WrongFormulas() {
		for name, x := range map[string]api.Formula{
			"at the root":              bad,
			"first":                    and(bad, falsum()),
			"second":                   imp(falsum(), bad),
			"below all":                all(nat, bad),
			"below some":               ex(nat, bad),
			"below uniform all":        allU(nat, bad),
			"below uniform some":       exU(list, bad),
			"below a bounded all":      allBelow(num(2), bad),
			"below a bounded some":     exBelow(v(1), bad),
			"before one":               imp(bad, exBelow(v(1), falsum())),
			"in a task":                all(list, all(nat, ex(nat, and(falsum(), bad)))),
			"before a limit":           all(nat, imp(bad, falsum())),
			"below, in the first Args": ands(20, allBelow(zero, bad)),
			"below, in the last Args":  imps(20, exBelow(zero, bad)),
			"behind too many nodes":    and(many, bad),
			"before too many nodes":    and(bad, many),
			"below too many nodes":     alls(5000, bad),
		} {
			what := strconv.Itoa(i) + " " + name
			must(t, what, errorOf(t, what, x), api.ErrForm)
		}
	}
	for i, bad := range samples.WrongTerms() {
		for name, x := range map[string]api.Formula{
			"limit of all":  allBelow(bad, falsum()),
			"limit of some": exBelow(pair(zero, bad), falsum()),
			"less":          all(nat, imp(eq(app(sub(), succ(bad), zero), zero), falsum())),
			"difference":    ex(nat, and(eq(app(bad, succ(v(0)), zero), zero), falsum())),
			"right side":    all(nat, imp(eq(app(sub(), succ(v(0)), zero), bad), falsum())),
			"task":          all(nat, ex(nat, eq(v(0), bad))),
		} {
			what := strconv.Itoa(i) + " in " + name
			must(t, what, errorOf(t, what, x), api.ErrForm)
		}
	}
}

// P8.1 to P8.3: fields that a quantifier, or what stands below it, does not name.
func TestFields(t *testing.T) {
	for i, x := range []api.Formula{
		tree(api.FormAll, nat, []api.Term{zero}, imp(less(v(0), zero), falsum())),
		tree(api.FormAll, nat, nil, imp(less(v(0), zero), falsum()), falsum()),
		tree(api.FormAll, api.Type{Kind: api.TypeNat, Args: []api.Type{nat}}, nil, imp(less(v(0), zero), falsum())),
		tree(api.FormAll, api.Type{}, nil, imp(less(v(0), zero), falsum())),
		all(nat, tree(api.FormImp, nat, nil, less(v(0), zero), falsum())),
		all(nat, tree(api.FormImp, api.Type{}, nil, less(v(0), zero))),
		all(nat, tree(api.FormImp, api.Type{}, nil, less(v(0), zero), falsum(), falsum())),
		ex(nat, tree(api.FormAnd, api.Type{}, []api.Term{v(0)}, less(v(0), zero), falsum())),
		ex(nat, and(tree(api.FormEq, nat, less(v(0), zero).Terms), falsum())),
		ex(nat, and(tree(api.FormEq, api.Type{}, less(v(0), zero).Terms[:1]), falsum())),
		ex(nat, and(tree(api.FormEq, api.Type{}, nil), falsum())),
		ex(nat, and(tree(api.FormEq, api.Type{}, less(v(0), zero).Terms, falsum()), falsum())),
		tree(api.FormEx, nat, nil), tree(api.FormAll, nat, nil), tree(api.FormAnd, api.Type{}, nil),
	} {
		what := strconv.Itoa(i)
		must(t, what, errorOf(t, what, x), api.ErrForm)
	}
}

// P8.1 to P8.3: as many nodes as may be, and too many.
func TestSizes(t *testing.T) {
	for name, q := range map[string]struct {
		f    api.Formula
		want kinds
	}{
		"equation":            {eq(num(4093), zero), kinds{false, true, true}},
		"other side":          {eq(zero, num(4093)), kinds{false, true, true}},
		"quantifiers":         {alls(4092, falsum()), kinds{}},
		"quantifiers with Ex": {alls(4091, ex(nat, falsum())), kinds{content: true}},
		"first Args":          {ands(818, eq(zero, num(3))), kinds{false, true, true}},
		"last Args":           {imps(818, eq(zero, num(3))), kinds{false, true, true}},
		"content far below":   {imps(812, exBelow(zero, ex(nat, eq(zero, num(7))))), kinds{content: true}},
	} {
		size, _ := formula.Size(q.f)
		must(t, name+": nodes", size, api.MaxFormula)
		must(t, name, kindsOf(t, name, q.f), q.want)
	}
}

// P8.3: bounded quantifiers below others, as many as there may be.
func TestNested(t *testing.T) {
	for name, q := range map[string]struct {
		f    api.Formula
		want kinds
	}{
		"all":                    {nested(163, true, eq(num(18), zero)), kinds{decidable: true}},
		"some":                   {nested(163, false, eq(num(18), zero)), kinds{content: true, decidable: true}},
		"some below all":         {nested(81, true, nested(82, false, eq(num(18), zero))), kinds{content: true, decidable: true}},
		"all below some":         {nested(81, false, nested(82, true, eq(num(18), zero))), kinds{content: true, decidable: true}},
		"an All at the end":      {nested(163, true, all(nat, eq(num(17), zero))), kinds{}},
		"an Ex at the end":       {nested(163, true, ex(nat, eq(num(17), zero))), kinds{content: true}},
		"a uniform one":          {nested(163, false, allU(nat, eq(num(17), zero))), kinds{content: true}},
		"an All in front":        {all(nat, nested(163, true, eq(num(17), zero))), kinds{}},
		"an All in the middle":   {nested(80, true, all(nat, nested(83, true, eq(num(17), zero)))), kinds{}},
		"one with its own limit": {nested(80, true, allBelow(v(0), nested(82, true, eq(num(18), zero)))), kinds{}},
	} {
		size, _ := formula.Size(q.f)
		must(t, name+": nodes", size, api.MaxFormula)
		must(t, name, kindsOf(t, name, q.f), q.want)
	}
}

// P8.1 to P8.3: too many nodes.
func TestTooLarge(t *testing.T) {
	for name, x := range samples.LargeFormulas() {
		must(t, name, errorOf(t, name, x), api.ErrSize)
	}
}

// P8.3: Universal.
func TestUniversal(t *testing.T) {
	e, some := falsum(), ex(list, eq(v(0), v(1)))
	for i, q := range []struct {
		f     api.Formula
		front []api.Type
		below api.Formula
	}{
		{e, nil, e},
		{some, nil, some},
		{and(all(nat, e), e), nil, and(all(nat, e), e)},
		{imp(e, all(nat, e)), nil, imp(e, all(nat, e))},
		{all(nat, e), []api.Type{nat}, e},
		{all(nat, some), []api.Type{nat}, some},
		{all(nat, all(list, e)), []api.Type{nat, list}, e},
		{all(list, all(nat, all(fun(nat, nat), all(both(unit, nat), some)))), []api.Type{list, nat, fun(nat, nat), both(unit, nat)}, some},
		{allU(nat, all(nat, e)), nil, allU(nat, all(nat, e))},
		{exU(nat, all(nat, e)), nil, exU(nat, all(nat, e))},
		{all(list, allU(nat, all(nat, e))), []api.Type{list}, allU(nat, all(nat, e))},
		{all(list, ex(nat, all(unit, e))), []api.Type{list}, ex(nat, all(unit, e))},
		{all(list, and(all(nat, e), e)), []api.Type{list}, and(all(nat, e), e)},
		{all(list, all(nat, imp(e, all(nat, e)))), []api.Type{list, nat}, imp(e, all(nat, e))},
		{allBelow(zero, all(nat, e)), []api.Type{nat}, imp(less(v(0), zero), all(nat, e))},
		{all(unit, allBelow(zero, e)), []api.Type{unit, nat}, imp(less(v(0), zero), e)},
		{exBelow(zero, e), nil, exBelow(zero, e)},
		{all(wide(31, nat), all(wide(31, list), e)), []api.Type{wide(31, nat), wide(31, list)}, e},
		{alls(4092, e), slices.Repeat([]api.Type{nat}, 4092), e},
		{alls(4000, all(list, some)), append(slices.Repeat([]api.Type{nat}, 4000), list), some},
		{api.Formula{Kind: api.FormAll, Type: api.Type{Kind: api.TypeNat, Args: []api.Type{}}, Terms: []api.Term{}, Args: []api.Formula{e}}, []api.Type{{Kind: api.TypeNat, Args: []api.Type{}}}, e},
	} {
		front, below, err := class.Universal(q.f)
		mustFormula(t, strconv.Itoa(i), below, err, q.below, api.OK)
		must(t, strconv.Itoa(i)+": types", front, q.front)
	}
}

// P8.3: Task of what is one.
func TestTask(t *testing.T) {
	e, every := eq(v(0), v(1)), allBelow(v(1), eq(v(0), v(2)))
	some := exBelow(num(3), every)
	for i, q := range []struct {
		front []api.Type
		t     api.Type
		body  api.Formula
	}{
		{nil, nat, e},
		{nil, unit, falsum()},
		{[]api.Type{nat}, nat, e},
		{[]api.Type{nat, list}, fun(nat, nat), e},
		{[]api.Type{list, fun(nat, nat), unit, both(nat, nat)}, list, and(e, e)},
		{[]api.Type{nat}, wide(31, nat), imp(e, imp(e, e))},
		{nil, nat, every},
		{nil, nat, some},
		{[]api.Type{nat}, list, every},
		{[]api.Type{nat}, both(nat, list), some},
		{[]api.Type{nat}, nat, and(some, imp(every, e))},
		{[]api.Type{nat}, nat, and(less(v(0), v(1)), e)}, // with the Ex a bounded quantifier
		{nil, nat, and(less(v(0), num(7)), some)},
		{nil, nat, imp(less(v(0), v(1)), e)},
		{[]api.Type{nat, nat}, nat, less(v(0), v(0))},
		{[]api.Type{unit}, nat, eq(none, v(greatest))}, // no types of terms are asked for
		{slices.Repeat([]api.Type{nat}, 4091), nat, falsum()},
		{[]api.Type{nat}, nat, nested(162, false, falsum())},
	} {
		f := ex(q.t, q.body)
		for _, u := range slices.Backward(q.front) {
			f = all(u, f)
		}
		front, some, body, ok := class.Task(f)
		must(t, strconv.Itoa(i), []any{front, some, body, ok}, []any{q.front, q.t, q.body, true})
	}
}

// P8.3: what looks like a task and is none.
func TestNoTask(t *testing.T) {
	e := eq(v(0), v(1))
	task := all(nat, ex(nat, e))
	for i, f := range []api.Formula{
		{}, falsum(), all(nat, falsum()), alls(4092, falsum()), and(e, e), imp(e, e), all(nat, and(e, e)),
		and(task, e), and(e, task), imp(e, task), imp(task, e), and(ex(nat, e), ex(nat, e)), imp(e, ex(nat, e)), all(nat, imp(e, ex(nat, e))), all(nat, and(ex(nat, e), e)),
		allU(nat, ex(nat, e)), allU(nat, task), all(nat, allU(nat, ex(nat, e))), exU(nat, e), all(nat, exU(nat, e)), exU(nat, ex(nat, e)), all(nat, exU(nat, ex(nat, e))),
		ex(nat, ex(nat, e)), ex(nat, ex(list, and(less(v(0), num(3)), e))), ex(nat, all(nat, e)), ex(nat, allU(nat, e)), ex(nat, exU(nat, e)), ex(nat, task), all(nat, ex(nat, task)),
		ex(nat, and(e, ex(nat, e))), ex(nat, imp(all(nat, e), e)), ex(nat, and(exBelow(zero, e), exBelow(v(0), e))), ex(nat, allBelow(zero, all(nat, e))), ex(nat, exBelow(zero, ex(nat, e))),
		// A bounded All counts as All: below it stands no Ex.
		allBelow(num(2), ex(nat, e)), allBelow(num(2), e), allBelow(v(3), exBelow(zero, e)), all(nat, allBelow(v(0), ex(nat, e))), allBelow(zero, all(nat, ex(nat, e))),
		all(list, imp(less(v(0), v(1)), ex(nat, e))),
	} {
		mustNoTask(t, strconv.Itoa(i), f)
	}
}

// The chapter's example: a task with a free formula.
func TestExample(t *testing.T) {
	front, some, body, ok := class.Task(all(nat, ex(nat, eq(v(0), v(1)))))
	must(t, "task", []any{front, some, body, ok}, []any{[]api.Type{nat}, nat, eq(v(0), v(1)), true})
	must(t, "free", kindsOf(t, "formula", body).free, true)
}
