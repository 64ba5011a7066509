package class_test

import (
	"slices"
	"strconv"
	"testing"

	"proofprograms/api"
	"proofprograms/class"
	"proofprograms/formula"
	"proofprograms/samples"
	"proofprograms/terms"
)

// The context of the tests with types: the variables 0 and 3 are numbers, 1 a list, 2 a function.
var context = []api.Type{nat, fun(nat, nat), list, nat}

// many returns formulas of all classes, and terms for limits.
func many() ([]api.Formula, []api.Term) {
	c := samples.Choices{State: 80}
	l := []api.Formula{falsum(), allBelow(v(1), eq(v(0), v(1))), exBelow(v(3), allBelow(v(1), eq(v(0), v(5)))), allBelow(v(0), falsum()), all(nat, ex(nat, eq(v(0), v(1))))}
	var limits []api.Term
	for range 300 {
		l = append(l, c.Loose(4), c.Formula(context, 4), c.Decidable(context, 4), c.Decidable(context, 5))
		limits = append(limits, c.Mixed(3), c.OfType(context, nat, 3))
	}
	return l, limits
}

// The chapter's consequences: Bound of Bounded are the parts. And Bounded of these is the formula.
func TestBoundOfBounded(t *testing.T) {
	l, limits := many()
	for i, f := range l {
		limit := limits[i%len(limits)]
		for _, every := range []bool{true, false} {
			what := strconv.Itoa(i)
			made, err := class.Bounded(every, limit, f)
			must(t, what+": error", err, api.OK)
			is, x, body, ok := class.Bound(made)
			must(t, what+": parts", []bool{is, terms.Same(x, limit), formula.Same(body, f), ok}, []bool{every, true, true, true})
			again, err := class.Bounded(is, x, body)
			mustFormula(t, what+": again", again, err, made, api.OK)
			must(t, what+": decidable", kindsOf(t, what, made).decidable, kindsOf(t, what, f).decidable)
		}
	}
}

// The chapter's consequences: Content and Free do not change by Lift and Put, and what is decidable stays so; what is free is decidable.
func TestKindsStay(t *testing.T) {
	parts := []api.Term{zero, v(0), succ(v(2)), lam(nat, app(v(0), v(1))), pair(none, v(farthest)), sub()}
	decidable := 0
	l, _ := many()
	for i, f := range l {
		what := strconv.Itoa(i)
		was := kindsOf(t, what, f)
		must(t, what+": what is free is decidable", !was.free || was.decidable, true)
		if was.decidable && !was.free {
			decidable++
		}
		var after []api.Formula
		for at := range 4 {
			lifted, err := formula.Lift(f, at, 4096)
			must(t, what+": Lift", err, api.OK)
			after = append(after, lifted)
			for _, s := range parts {
				put, err := formula.Put(f, at, s)
				must(t, what+": Put", err, api.OK)
				after = append(after, put)
			}
		}
		for _, g := range after {
			is := kindsOf(t, what, g)
			must(t, what+": Content and Free", []bool{is.content, is.free}, []bool{was.content, was.free})
			must(t, what+": stays decidable", !was.decidable || is.decidable, true)
		}
	}
	must(t, "decidable formulas with quantifiers", decidable > 300, true)
}

// What is decidable stays so also where Lift leads to variables that it would not lift itself.
func TestFarLimits(t *testing.T) {
	for i, f := range []api.Formula{allBelow(v(farthest), falsum()), exBelow(lam(nat, pair(v(2), v(farthest))), falsum())} {
		lifted, err := formula.Lift(f, 0, 4096)
		must(t, strconv.Itoa(i)+": Lift", err, api.OK)
		must(t, strconv.Itoa(i), []bool{kindsOf(t, "before", f).decidable, kindsOf(t, "after", lifted).decidable}, []bool{true, true})
	}
}

// What is not decidable may become so: Put can put Sub where a variable stood.
func TestBecomesDecidable(t *testing.T) {
	f := all(nat, imp(eq(app(v(1), succ(v(0)), v(2)), zero), falsum()))
	put, err := formula.Put(f, 0, sub())
	mustFormula(t, "Put", put, err, allBelow(v(1), falsum()), api.OK)
	must(t, "decidable", []bool{kindsOf(t, "before", f).decidable, kindsOf(t, "after", put).decidable}, []bool{false, true})
}

// Less and Bounded of typed parts are typed.
func TestTypedStays(t *testing.T) {
	c := samples.Choices{State: 81}
	for i := range 300 {
		what := strconv.Itoa(i)
		a, b := c.OfType(context, nat, 3), c.OfType(context, nat, 3)
		less, err := class.Less(a, b)
		must(t, what+": Less", []api.Errno{err, formula.Typed(context, less)}, []api.Errno{api.OK, api.OK})
		body := c.Formula(append(slices.Clone(context), nat), 3)
		made, err := class.Bounded(i%2 == 0, a, body)
		must(t, what+": Bounded", []api.Errno{err, formula.Typed(context, made)}, []api.Errno{api.OK, api.OK})
	}
}

// R2: arguments stay as they were, and so does what lies behind them in their memory. R4: results depend on arguments alone.
func TestArgumentsStay(t *testing.T) {
	for i, f := range []api.Formula{
		all(list, all(fun(nat, nat), ex(nat, and(eq(app(v(1), v(0)), zero), falsum())))),
		allBelow(app(v(1), lam(nat, v(2))), imp(exBelow(v(4), eq(v(0), v(2))), falsum())),
		exBelow(v(3), all(nat, ex(list, falsum()))),
	} {
		f = samples.MarkedFormula(f)
		s := samples.MarkedTerm(pair(v(0), v(1)))
		was, wasS := samples.DeepFormula(f), samples.Deep(s)
		call := func() []any {
			content, _ := class.Content(f)
			free, _ := class.Free(f)
			decidable, _ := class.Decidable(f)
			less, _ := class.Less(s, s)
			made, _ := class.Bounded(content, s, f)
			every, limit, body, ok := class.Bound(f)
			front, below, _ := class.Universal(f)
			types, some, inner, is := class.Task(f)
			return []any{content, free, decidable, less, made, every, limit, body, ok, front, below, types, some, inner, is}
		}
		first := call()
		must(t, strconv.Itoa(i)+": once more", call(), first)
		must(t, strconv.Itoa(i)+": formula", samples.DeepFormula(f), was)
		must(t, strconv.Itoa(i)+": term", samples.Deep(s), wasS)
		must(t, strconv.Itoa(i)+": behind the ends", []bool{samples.FormulaIsMarked(f), samples.TermIsMarked(s)}, []bool{true, true})
	}
}
