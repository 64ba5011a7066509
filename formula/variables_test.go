package formula_test

import (
	"reflect"
	"slices"
	"strconv"
	"strings"
	"testing"

	"proofprograms/api"
	"proofprograms/formula"
	"proofprograms/reduce"
	"proofprograms/samples"
	"proofprograms/subst"
	"proofprograms/terms"
)

// many returns formulas of all kinds, with variables below up to four quantifiers and functions.
func many() []api.Formula {
	var l []api.Formula
	for n := range 4 {
		for i := range n + 3 {
			l = append(l,
				alls(n, eq(v(i), v(0))),
				alls(n, imp(eq(v(i), lam(nat, app(v(0), v(i)))), ex(list, eq(v(2), v(i))))),
				and(alls(n, eq(zero, v(i))), eq(v(i), v(1))),
				quant(api.FormExU, fun(nat, nat), quant(api.FormAllU, unit, alls(n, eq(app(v(n), v(i)), lam(list, v(3)))))),
			)
		}
	}
	c := samples.Choices{State: 7}
	for range 60 {
		l = append(l, c.Loose(4))
	}
	return l
}

// P7.2: Lift.
func TestLift(t *testing.T) {
	for i, q := range []struct {
		f        api.Formula
		from, by int
		want     api.Formula
	}{
		{eq(v(0), v(1)), 0, 2, eq(v(2), v(3))},
		{eq(v(0), v(1)), 1, 2, eq(v(0), v(3))},
		{eq(v(0), v(1)), 2, 2, eq(v(0), v(1))},
		{eq(v(4), v(1)), 1, 0, eq(v(4), v(1))},
		{falsum(), 0, 7, falsum()},
		{and(eq(v(0), v(1)), eq(v(1), zero)), 1, 3, and(eq(v(0), v(4)), eq(v(4), zero))},
		{imp(eq(v(1), zero), eq(zero, v(0))), 1, 3, imp(eq(v(4), zero), eq(zero, v(0)))},
		{all(nat, eq(v(0), v(1))), 0, 2, all(nat, eq(v(0), v(3)))},
		{ex(list, eq(v(1), v(2))), 1, 2, ex(list, eq(v(1), v(4)))},
		{quant(api.FormAllU, unit, eq(v(1), v(0))), 0, 5, quant(api.FormAllU, unit, eq(v(6), v(0)))},
		{quant(api.FormExU, unit, eq(v(1), v(0))), 0, 5, quant(api.FormExU, unit, eq(v(6), v(0)))},
		{all(nat, ex(nat, eq(v(1), v(2)))), 0, 1, all(nat, ex(nat, eq(v(1), v(3))))},
		{and(all(nat, eq(v(1), zero)), eq(v(1), zero)), 1, 1, and(all(nat, eq(v(1), zero)), eq(v(2), zero))}, // behind a quantifier its variable is gone
		{all(nat, eq(lam(nat, app(v(0), v(1), v(2))), v(1))), 0, 1, all(nat, eq(lam(nat, app(v(0), v(1), v(3))), v(2)))},
		{all(nat, eq(rec(nat, v(0), v(1), v(2)), fold(list, v(2), v(1), v(0)))), 1, 4, all(nat, eq(rec(nat, v(0), v(1), v(6)), fold(list, v(6), v(1), v(0))))},
		{eq(v(4096), v(4095)), 4096, 4096, eq(v(8192), v(4095))},
		{eq(v(farthest), zero), 0, 4096, eq(v(farthest+4096), zero)},
		// Farther than subst.Lift may be asked for below quantifiers.
		{alls(100, eq(v(4196), v(4195))), 4096, 1, alls(100, eq(v(4197), v(4195)))},
		{alls(4093, eq(v(8189), v(8188))), 4096, 4096, alls(4093, eq(v(12285), v(8188)))},
		{alls(4093, eq(v(4093), v(4092))), 0, 4096, alls(4093, eq(v(8189), v(4092)))},
		{alls(2000, eq(above(2092, v(6096)), zero)), 4096, 1, alls(2000, eq(above(2092, v(6097)), zero))},
	} {
		got, err := formula.Lift(q.f, q.from, q.by)
		mustFormula(t, strconv.Itoa(i), got, err, q.want, api.OK)
	}
}

// P7.2: the errors of Lift, in their order.
func TestLiftErrors(t *testing.T) {
	bad, large := eq(v(farthest+1), v(-1)), eq(num(4093), v(farthest+1))
	large.Terms[0] = succ(large.Terms[0])
	for i, q := range []struct {
		f        api.Formula
		from, by int
		want     api.Errno
	}{
		{bad, -1, -1, api.ErrForm},
		{api.Formula{}, 0, 0, api.ErrForm},
		{large, -1, -1, api.ErrSize},
		{large, 0, 0, api.ErrSize},
		{falsum(), -1, 0, api.ErrRange},
		{falsum(), 0, -1, api.ErrRange},
		{falsum(), 4097, 0, api.ErrRange},
		{falsum(), 0, 4097, api.ErrRange},
		{falsum(), greatest, 0, api.ErrRange},
		{falsum(), 0, greatest, api.ErrRange},
		{falsum(), -greatest - 1, 0, api.ErrRange},
		{falsum(), 0, -greatest - 1, api.ErrRange},
		{eq(v(farthest+1), zero), 0, 0, api.ErrRange},
		{eq(zero, v(greatest)), 0, 1, api.ErrRange},
		{all(nat, and(falsum(), eq(zero, lam(nat, v(farthest+1))))), 4096, 0, api.ErrRange}, // the Index counts, not the variable
		{falsum(), 4096, 4096, api.OK},
	} {
		got, err := formula.Lift(q.f, q.from, q.by)
		want := api.Formula{}
		if q.want == api.OK {
			want = q.f
		}
		mustFormula(t, strconv.Itoa(i), got, err, want, q.want)
	}
}

// P7.2: Uses.
func TestUses(t *testing.T) {
	for i, q := range []struct {
		f    api.Formula
		want []int
	}{
		{falsum(), nil},
		{eq(v(3), v(1)), []int{1, 3}},
		{eq(v(2), v(2)), []int{2}},
		{and(eq(v(9), v(2)), imp(eq(v(5), v(9)), eq(zero, v(0)))), []int{0, 2, 5, 9}},
		{all(nat, eq(v(0), v(1))), []int{0}}, // the chapter's example
		{ex(nat, eq(v(0), v(0))), nil},
		{quant(api.FormAllU, nat, eq(v(0), v(4))), []int{3}},
		{quant(api.FormExU, nat, eq(v(3), v(0))), []int{2}},
		{and(all(nat, eq(v(0), zero)), eq(v(0), zero)), []int{0}},
		{and(eq(v(1), zero), all(nat, eq(v(1), zero))), []int{0, 1}},
		{all(nat, ex(nat, eq(lam(nat, app(v(0), v(1), v(2), v(3), v(6))), v(1)))), []int{0, 3}},
		{eq(app(v(10), v(9), v(8), v(7), v(6), v(5), v(4), v(3)), app(v(2), v(1), v(0))), []int{0, 1, 2, 3, 4, 5, 6, 7, 8, 9, 10}},
		{eq(v(greatest), lam(nat, v(greatest))), []int{greatest - 1, greatest}},
		{all(nat, eq(v(greatest), zero)), []int{greatest - 1}},
		{alls(4093, eq(v(4092), v(4093))), []int{0}},
		{alls(4093, eq(v(4092), zero)), nil},
	} {
		got, err := formula.Uses(q.f)
		must(t, strconv.Itoa(i), []any{got, err}, []any{q.want, api.OK})
	}
}

// P7.2: Lower, and its errors in their order.
func TestLower(t *testing.T) {
	bad, large := eq(v(0), v(-1)), eq(num(4094), v(0))
	for i, q := range []struct {
		f    api.Formula
		at   int
		want api.Formula
		err  api.Errno
	}{
		{falsum(), 0, falsum(), api.OK},
		{eq(v(0), v(2)), 1, eq(v(0), v(1)), api.OK},
		{eq(v(1), v(2)), 0, eq(v(0), v(1)), api.OK},
		{all(nat, eq(v(0), v(2))), 0, all(nat, eq(v(0), v(1))), api.OK},
		{all(nat, eq(v(0), v(1))), 1, all(nat, eq(v(0), v(1))), api.OK},
		{imp(ex(list, ex(nat, eq(v(1), v(4)))), eq(v(2), zero)), 1, imp(ex(list, ex(nat, eq(v(1), v(3)))), eq(v(1), zero)), api.OK},
		{quant(api.FormAllU, nat, eq(v(2), lam(nat, v(3)))), 0, quant(api.FormAllU, nat, eq(v(1), lam(nat, v(2)))), api.OK},
		{quant(api.FormExU, nat, eq(v(0), v(3))), 1, quant(api.FormExU, nat, eq(v(0), v(2))), api.OK},
		{eq(v(4097), v(4095)), 4096, eq(v(4096), v(4095)), api.OK},
		{eq(v(greatest), zero), 0, eq(v(greatest-1), zero), api.OK}, // no Index is too great for Lower
		{alls(100, eq(v(4197), v(4195))), 4096, alls(100, eq(v(4196), v(4195))), api.OK},
		{alls(4093, eq(v(8190), v(8188))), 4096, alls(4093, eq(v(8189), v(8188))), api.OK},
		{bad, -1, api.Formula{}, api.ErrForm},
		{bad, 0, api.Formula{}, api.ErrForm},
		{large, -1, api.Formula{}, api.ErrSize},
		{large, 0, api.Formula{}, api.ErrSize},
		{eq(v(0), zero), -1, api.Formula{}, api.ErrRange},
		{eq(v(4097), zero), 4097, api.Formula{}, api.ErrRange},
		{falsum(), greatest, api.Formula{}, api.ErrRange},
		{falsum(), -greatest - 1, api.Formula{}, api.ErrRange},
		{eq(v(0), zero), 0, api.Formula{}, api.ErrScope},
		{eq(zero, v(4096)), 4096, api.Formula{}, api.ErrScope},
		{all(nat, eq(v(1), zero)), 0, api.Formula{}, api.ErrScope},
		{and(all(nat, eq(v(0), zero)), eq(v(0), zero)), 0, api.Formula{}, api.ErrScope},
		{imp(falsum(), ex(nat, eq(zero, lam(nat, v(3))))), 1, api.Formula{}, api.ErrScope},
		{alls(100, eq(v(4196), zero)), 4096, api.Formula{}, api.ErrScope},
		{alls(4093, eq(v(4093), zero)), 0, api.Formula{}, api.ErrScope},
	} {
		got, err := formula.Lower(q.f, q.at)
		mustFormula(t, strconv.Itoa(i), got, err, q.want, q.err)
	}
}

// P7.2: Put.
func TestPut(t *testing.T) {
	for i, q := range []struct {
		f    api.Formula
		at   int
		s    api.Term
		want api.Formula
	}{
		{eq(v(0), v(1)), 0, zero, eq(zero, v(0))},
		{eq(v(0), v(1)), 1, zero, eq(v(0), zero)},
		{eq(v(0), v(2)), 2, v(0), eq(v(0), v(2))}, // s stands in the context of the variables beyond 2
		{falsum(), 0, v(3), falsum()},
		{and(eq(v(0), v(2)), eq(zero, v(0))), 0, succ(v(4)), and(eq(succ(v(4)), v(1)), eq(zero, succ(v(4))))},
		{all(nat, eq(v(0), v(1))), 0, zero, all(nat, eq(v(0), zero))},
		{all(nat, eq(v(0), v(1))), 0, v(0), all(nat, eq(v(0), v(1)))},
		{ex(nat, eq(v(0), v(2))), 0, zero, ex(nat, eq(v(0), v(1)))},
		{quant(api.FormAllU, nat, eq(v(1), v(2))), 1, v(3), quant(api.FormAllU, nat, eq(v(1), v(5)))},
		{quant(api.FormExU, nat, eq(v(1), v(3))), 0, lam(list, app(v(0), v(1))), quant(api.FormExU, nat, eq(lam(list, app(v(0), v(2))), v(2)))},
		{all(nat, ex(nat, eq(lam(nat, app(v(0), v(1), v(2), v(3), v(4), v(5))), v(3)))), 1, v(2), all(nat, ex(nat, eq(lam(nat, app(v(0), v(1), v(2), v(3), v(6), v(4))), v(5))))},
		{imp(all(nat, eq(v(1), zero)), eq(v(0), v(1))), 0, v(7), imp(all(nat, eq(v(8), zero)), eq(v(7), v(0)))},
		{eq(v(0), zero), 0, v(farthest), eq(v(farthest), zero)},
		{all(nat, eq(v(1), zero)), 0, v(farthest), all(nat, eq(v(farthest+1), zero))},
		{eq(v(farthest), v(0)), 0, zero, eq(v(farthest-1), zero)},
		{alls(100, eq(v(4196), v(4197))), 4096, v(1), alls(100, eq(v(4197), v(4196)))},
		{alls(4093, eq(v(8189), v(8188))), 4096, v(farthest), alls(4093, eq(v(farthest+8189), v(8188)))},
		{falsum(), 0, above(4095, zero), falsum()},
		{eq(v(1), zero), 0, above(4095, zero), eq(v(0), zero)},
		// As many nodes as may be.
		{eq(v(0), zero), 0, above(4093, v(3)), eq(above(4093, v(3)), zero)},
		{eq(v(0), succ(v(0))), 0, above(2046, v(3)), eq(above(2046, v(3)), above(2047, v(3)))},
		{and(eq(v(0), zero), all(nat, eq(zero, v(1)))), 0, above(2044, v(3)), and(eq(above(2044, v(3)), zero), all(nat, eq(zero, above(2044, v(4)))))},
		{alls(4000, eq(v(4000), zero)), 0, above(93, v(0)), alls(4000, eq(above(93, v(4000)), zero))},
		{eq(num(4093), v(0)), 0, only, eq(num(4093), only)},
	} {
		got, err := formula.Put(q.f, q.at, q.s)
		mustFormula(t, strconv.Itoa(i), got, err, q.want, api.OK)
	}
}

// P7.2: the errors of Put, in their order.
func TestPutErrors(t *testing.T) {
	bad, large, far := node(0), above(4096, v(0)), v(farthest+1)
	for i, q := range []struct {
		f    api.Formula
		at   int
		s    api.Term
		want api.Errno
	}{
		{api.Formula{}, -1, large, api.ErrForm},
		{eq(far, v(-1)), 0, zero, api.ErrForm},
		{eq(num(4094), zero), -1, bad, api.ErrSize},
		{falsum(), -1, bad, api.ErrRange},
		{falsum(), 4097, bad, api.ErrRange},
		{falsum(), 4097, large, api.ErrRange},
		{falsum(), greatest, zero, api.ErrRange},
		{falsum(), -greatest - 1, zero, api.ErrRange},
		{eq(v(4097), zero), 4097, zero, api.ErrRange},
		{eq(far, zero), 0, bad, api.ErrForm},
		{eq(far, zero), 0, large, api.ErrSize},
		{falsum(), 0, bad, api.ErrForm}, // also where it would stand nowhere
		{falsum(), 0, large, api.ErrSize},
		{eq(far, zero), 0, zero, api.ErrRange},
		{eq(v(0), zero), 0, far, api.ErrRange},
		{falsum(), 0, lam(nat, far), api.ErrRange},
		{and(eq(v(0), v(0)), eq(zero, far)), 0, above(4095, zero), api.ErrRange},
		{eq(v(0), v(0)), 0, above(4095, far), api.ErrRange},
		{eq(v(0), zero), 0, pair(zero, v(greatest)), api.ErrRange},
		{eq(v(0), zero), 0, above(4094, zero), api.ErrSize},
		{eq(v(0), zero), 0, above(4095, zero), api.ErrSize},
		{eq(v(0), v(0)), 0, above(2047, zero), api.ErrSize}, // in both terms together
		{eq(v(0), succ(v(0))), 0, above(2047, zero), api.ErrSize},
		{and(eq(v(0), zero), eq(zero, v(0))), 0, above(2045, zero), api.ErrSize}, // in both equations together
		{and(eq(v(0), zero), all(nat, eq(zero, v(1)))), 0, above(2045, v(3)), api.ErrSize},
		{alls(4000, eq(v(4000), zero)), 0, above(94, v(0)), api.ErrSize},
		{eq(num(4093), v(0)), 0, succ(only), api.ErrSize},
	} {
		got, err := formula.Put(q.f, q.at, q.s)
		mustFormula(t, strconv.Itoa(i), got, err, api.Formula{}, q.want)
	}
}

// P7.2: what is put in has any error that terms have.
func TestPutWrongTerms(t *testing.T) {
	for i, bad := range samples.WrongTerms() {
		for _, s := range []api.Term{bad, lam(nat, pair(zero, bad)), above(5000, bad)} {
			got, err := formula.Put(all(nat, eq(v(0), v(1))), 0, s)
			mustFormula(t, strconv.Itoa(i), got, err, api.Formula{}, api.ErrForm)
		}
	}
	for i, s := range []api.Term{above(4096, zero), full(12), full(16), above(1<<16, v(0))} {
		got, err := formula.Put(all(nat, eq(v(0), v(1))), 0, s)
		mustFormula(t, strconv.Itoa(i), got, err, api.Formula{}, api.ErrSize)
	}
}

// A naming says what a free variable is called at a place below so many functions and quantifiers.
type naming func(i, level int) string

// namedTerm returns a term that stands below level functions and quantifiers as a text with names instead of numbers.
// The last ones of these, as many as bound says, bind variables of the term; such a variable is named by how many stand above the one that binds it.
func namedTerm(t api.Term, bound, level int, free naming) string {
	if t.Kind == api.TermVar && t.Index < bound {
		return "b" + strconv.Itoa(level-1-t.Index)
	}
	if t.Kind == api.TermVar {
		return free(t.Index-bound, level)
	}
	if t.Kind == api.TermLam {
		bound, level = bound+1, level+1
	}
	l := []string{strconv.Itoa(t.Kind), strconv.Itoa(t.Type.Kind)}
	for _, a := range t.Args {
		l = append(l, namedTerm(a, bound, level, free))
	}
	return "(" + strings.Join(l, " ") + ")"
}

// named returns a formula that stands below bound quantifiers as such a text.
func named(f api.Formula, bound int, free naming) string {
	if f.Kind >= api.FormAll {
		bound++
	}
	l := []string{strconv.Itoa(f.Kind), strconv.Itoa(f.Type.Kind)}
	for _, t := range f.Terms {
		l = append(l, namedTerm(t, bound, bound, free))
	}
	for _, a := range f.Args {
		l = append(l, named(a, bound, free))
	}
	return "[" + strings.Join(l, " ") + "]"
}

func name(i, _ int) string { return "x" + strconv.Itoa(i) }

// P7.2: with names instead of numbers, lifting, lowering and putting in are other names for free variables.
func TestMeaning(t *testing.T) {
	parts := []api.Term{v(0), zero, lam(nat, app(v(0), v(1), v(3))), pair(v(1), lam(list, lam(nat, v(2))))}
	for i, f := range many() {
		for at := range 4 {
			what := strconv.Itoa(i) + " at " + strconv.Itoa(at)
			lifted, err := formula.Lift(f, at, 3)
			must(t, what+": Lift", []any{named(lifted, 0, name), err}, []any{named(f, 0, func(i, _ int) string {
				if i >= at {
					i += 3
				}
				return name(i, 0)
			}), api.OK})
			for _, s := range parts {
				got, err := formula.Put(f, at, s)
				must(t, what+": Put", []any{named(got, 0, name), err}, []any{named(f, 0, func(i, level int) string {
					switch {
					case i == at:
						return namedTerm(s, 0, level, func(j, _ int) string { return name(at+j, 0) })
					case i > at:
						i--
					}
					return name(i, 0)
				}), api.OK})
			}
		}
	}
}

// P7.2: Uses has the names of the free variables that the text has.
func TestUsesOfMany(t *testing.T) {
	for i, f := range many() {
		found := map[int]bool{}
		named(f, 0, func(i, _ int) string {
			found[i] = true
			return ""
		})
		var want []int
		for n := range 10 {
			if found[n] {
				want = append(want, n)
			}
		}
		got, err := formula.Uses(f)
		must(t, strconv.Itoa(i), []any{got, err}, []any{want, api.OK})
	}
}

// P7.2: an equation has the variables of both terms, as chapter 3 has them.
func TestEquationsAsTerms(t *testing.T) {
	for i, x := range samples.Small(3) {
		what := strconv.Itoa(i)
		f := eq(x, pair(v(1), x))
		lifted, err := formula.Lift(f, 1, 2)
		want, wantErr := subst.Lift(pair(x, pair(v(1), x)), 1, 2)
		mustFormula(t, what+": Lift", lifted, err, eq(want.Args[0], want.Args[1]), wantErr)
		put, err := formula.Put(f, 0, lam(nat, v(1)))
		want, wantErr = subst.Put(pair(x, pair(v(1), x)), 0, lam(nat, v(1)))
		mustFormula(t, what+": Put", put, err, eq(want.Args[0], want.Args[1]), wantErr)
		lowered, err := formula.Lower(f, 0)
		want, wantErr = subst.Lower(pair(x, pair(v(1), x)), 0)
		if wantErr != api.OK {
			mustFormula(t, what+": Lower", lowered, err, api.Formula{}, wantErr)
			continue
		}
		mustFormula(t, what+": Lower", lowered, err, eq(want.Args[0], want.Args[1]), wantErr)
	}
}

// What chapter 3 says of Lower and Lift, and of Put, holds for formulas.
func TestLowerOfLift(t *testing.T) {
	for i, f := range many() {
		for at := range 4 {
			what := strconv.Itoa(i) + " at " + strconv.Itoa(at)
			lifted, _ := formula.Lift(f, at, 1)
			back, err := formula.Lower(lifted, at)
			mustFormula(t, what+": Lower of Lift", back, err, f, api.OK)

			free, _ := formula.Uses(f)
			lowered, err := formula.Lower(f, at)
			must(t, what+": ErrScope", err == api.ErrScope, slices.Contains(free, at))
			if err == api.OK {
				put, err := formula.Put(f, at, succ(v(3)))
				mustFormula(t, what+": Put", put, err, lowered, api.OK)
			}
		}
	}
}

// What chapter 3 says of Put and Put holds for formulas.
func TestPutAndPut(t *testing.T) {
	s, r := pair(v(0), lam(nat, app(v(0), v(1), v(2)))), lam(list, app(v(1), v(0)))
	for i, f := range many() {
		for a := range 3 {
			for b := a; b < 4; b++ {
				once, _ := formula.Put(f, a, s)
				want, err := formula.Put(once, b, r)
				must(t, "error", err, api.OK)
				once, _ = formula.Put(f, b+1, r)
				part, _ := subst.Put(s, b-a, r)
				got, err := formula.Put(once, a, part)
				mustFormula(t, strconv.Itoa(i), got, err, want, api.OK)
			}
		}
	}
}

// The chapter's consequences: Match is true of a formula and itself, without any step.
func TestMatchOfItself(t *testing.T) {
	l := append(many(), eq(endless(), growing()), all(nat, and(eq(v(greatest), growing()), eq(v(0), endless()))))
	for i, f := range l {
		must(t, strconv.Itoa(i), formula.Match(f, samples.DeepFormula(f)), api.OK)
	}
}

// P7.3: a formula matches what it becomes when its terms are in normal form, and Match of two is that of what they become.
func TestMatchOfNormalForms(t *testing.T) {
	c := samples.Choices{State: 3}
	var l []api.Formula
	for i := range 2000 {
		f := c.Formula(context, 3)
		if n, ok := normal(f); ok && !reflect.DeepEqual(samples.DeepFormula(f), samples.DeepFormula(n)) {
			must(t, strconv.Itoa(i), []api.Errno{formula.Match(f, n), formula.Match(n, f)}, []api.Errno{api.OK, api.OK})
			l = append(l, f)
		}
	}
	must(t, "formulas that are not normal", len(l) > 200, true)
	for i, a := range l {
		for j, b := range l[:min(len(l), 20)] {
			x, _ := normal(a)
			y, _ := normal(b)
			must(t, strconv.Itoa(i)+" and "+strconv.Itoa(j), formula.Match(a, b) == api.OK, formula.Same(x, y))
		}
	}
}

// normal returns a formula with its terms in normal form, and whether all of them have one within the steps.
func normal(f api.Formula) (api.Formula, bool) {
	c := samples.DeepFormula(f)
	for i, t := range c.Terms {
		n, _, err := reduce.Normal(t, api.MaxSteps)
		if err != api.OK {
			return api.Formula{}, false
		}
		c.Terms[i] = n
	}
	for i, a := range c.Args {
		n, ok := normal(a)
		if !ok {
			return api.Formula{}, false
		}
		c.Args[i] = n
	}
	return c, true
}

// The chapter's consequences: what is typed stays so by Lift into a longer context, and by Put of a term of the right type.
func TestTypedStays(t *testing.T) {
	c := samples.Choices{State: 5}
	parts := []api.Term{v(0), succ(v(0)), v(1), v(2), v(3), lam(nat, app(v(3), v(0))), cons(v(0), v(1)), app(v(2), zero), node(api.TermSnd, v(3)), only}
	for i := range 300 {
		what := strconv.Itoa(i)
		f := c.Formula(context, 4)
		must(t, what, formula.Typed(context, f), api.OK)
		for from := range len(context) + 1 {
			at := len(context) - from
			long := slices.Concat(context[:at], []api.Type{unit, fun(list, nat)}, context[at:])
			lifted, err := formula.Lift(f, from, 2)
			must(t, what+" lifted from "+strconv.Itoa(from), []api.Errno{err, formula.Typed(long, lifted)}, []api.Errno{api.OK, api.OK})
		}
		for j, s := range parts {
			u, err := terms.TypeOf(context, s)
			must(t, "type of what is put in", err, api.OK)
			f := c.Formula(append(slices.Clone(context), u), 4)
			put, err := formula.Put(f, 0, s)
			must(t, what+" with "+strconv.Itoa(j), []api.Errno{err, formula.Typed(context, put)}, []api.Errno{api.OK, api.OK})
		}
	}
}
