package decide_test

import (
	"fmt"
	"slices"
	"strconv"
	"testing"

	"proofprograms/api"
	"proofprograms/class"
	"proofprograms/decide"
	"proofprograms/samples"
	"proofprograms/value"
)

// found is what Least returns.
type found struct {
	k    int
	ok   bool
	work int
	err  api.Errno
}

// leastOf returns the outcome of a call of Least.
func leastOf(f api.Formula, bound, work int) found {
	k, ok, n, err := decide.Least(f, bound, work)
	return found{k, ok, n, err}
}

// P9.2: the values come in place of the variables, the last one first.
func TestHolds(t *testing.T) {
	length := func(l api.Term) api.Term {
		return fold(nat, zero, lam(nat, lam(list, lam(nat, succ(v(0))))), l)
	}
	for i, q := range []struct {
		f    api.Formula
		l    []api.Value
		is   bool
		work int
	}{
		{eq(v(0), zero), []api.Value{number(0)}, true, 2},
		{eq(v(0), v(1)), []api.Value{number(2), number(3)}, false, 7},
		{eq(v(0), num(3)), []api.Value{number(2), number(3)}, true, 8},
		{eq(v(1), num(3)), []api.Value{number(2), number(3)}, false, 7},
		{and(eq(v(2), zero), and(eq(v(1), num(1)), eq(v(0), two))), []api.Value{number(0), number(1), number(2)}, true, 2 + 4 + 6},
		{imp(eq(v(2), zero), eq(v(0), v(0))), []api.Value{number(7), number(1), number(2)}, true, 9},
		// Values of all types.
		{eq(length(v(0)), two), []api.Value{numbers(4, 0)}, true, 23},
		{eq(length(v(1)), v(0)), []api.Value{numbers(4, 0), number(2)}, true, 23},
		{eq(node(api.TermFst, v(0)), node(api.TermSnd, v(1))), []api.Value{pack(single, number(1)), pack(number(1), numbers())}, true, 5 + 5},
		{eq(length(node(api.TermSnd, node(api.TermFst, v(1)))), zero), []api.Value{pack(pack(single, numbers()), number(3)), single}, true, 14},
		{eq(app(lam(unit, v(1)), v(1)), v(0)), []api.Value{single, number(4)}, true, 13},
		// More values than variables, and none.
		{falsum(), nil, false, 3}, {falsum(), []api.Value{}, false, 3}, {falsum(), []api.Value{single, numbers(1, 2), number(4095)}, false, 3},
		{eq(v(0), zero), []api.Value{number(7), number(9), number(0)}, true, 2},
		{eq(v(1), zero), []api.Value{number(7), number(0), number(9)}, true, 2},
		{yes, slices.Repeat([]api.Value{number(1)}, 5000), true, 2},
		// Below quantifiers, and in their limits.
		{allBelow(v(1), exBelow(v(2), eq(v(1), v(0)))), []api.Value{number(2)}, true, 3 + 1 + 3 + 3 + 1 + 3 + 4 + 5},
		{allBelow(v(1), eq(v(2), v(0))), []api.Value{number(5), number(3)}, false, 4 + 1 + 7},
		{exBelow(v(2), eq(v(1), v(0))), []api.Value{number(3), number(1)}, true, 4 + 4 + 5},
		// As many nodes as may be.
		{eq(succ(v(0)), v(0)), []api.Value{number(2046)}, false, 2048 + 2047},
		{eq(v(0), zero), []api.Value{number(4093)}, false, 4095},
	} {
		what := strconv.Itoa(i)
		for _, limit := range []int{q.work, most} {
			must(t, what, holds(q.f, q.l, limit), outcome{q.is, q.work, api.OK})
		}
		for _, limit := range fewer(q.work) {
			must(t, what+" with less work", holds(q.f, q.l, limit), outcome{err: api.ErrSteps})
		}
	}
}

// P9.2: the errors of Holds, in their order.
func TestHoldsErrors(t *testing.T) {
	const far = 1 << 29
	open, undecided := eq(v(0), v(0)), all(nat, eq(v(0), v(1)))
	wide, deep := number(0), number(0)
	for range 31 {
		wide = pack(wide, single)
	}
	deep = pack(single, pack(wide, single)) // 66 nodes, with 63 of them in wide
	for i, q := range []struct {
		f    api.Formula
		l    []api.Value
		work int
		want api.Errno
	}{
		{eq(num(4094), zero), []api.Value{{}}, -1, api.ErrSize},
		{eq(v(-1), zero), []api.Value{number(4096)}, -1, api.ErrForm},
		// Values: the first one that has an error, before anything is put.
		{open, []api.Value{number(4096), {}}, -1, api.ErrSize},
		{open, []api.Value{{}, number(4096)}, -1, api.ErrForm},
		{open, []api.Value{number(-1), number(3000)}, -1, api.ErrForm},
		{open, []api.Value{number(3000), number(-1)}, -1, api.ErrForm},
		{open, []api.Value{number(4096), number(3000)}, -1, api.ErrSize},
		{eq(v(far+1), zero), []api.Value{number(1), {}}, -1, api.ErrForm},
		{eq(v(far+1), zero), []api.Value{number(4096), number(1)}, -1, api.ErrSize},
		{undecided, []api.Value{{}}, most, api.ErrForm},
		{yes, []api.Value{{}}, most, api.ErrForm},
		{yes, []api.Value{{}, number(0)}, most, api.ErrForm},
		{yes, []api.Value{number(4096)}, most, api.ErrSize},
		{yes, []api.Value{number(greatest)}, most, api.ErrSize},
		{yes, []api.Value{number(least)}, most, api.ErrForm},
		{yes, []api.Value{numbers(0, 4092)}, most, api.ErrSize}, // a term of 2 + 4094 + 1 nodes
		{yes, []api.Value{numbers(0, 4091)}, most, api.OK},
		{yes, []api.Value{deep}, most, api.ErrSize},
		{yes, []api.Value{wide}, most, api.OK},
		// Put.
		{eq(v(far+1), zero), []api.Value{number(1)}, -1, api.ErrRange},
		{and(eq(v(far+1), zero), open), []api.Value{number(3000)}, most, api.ErrRange},
		{and(eq(v(far+1), zero), eq(v(1), v(1))), []api.Value{number(3000), number(0)}, most, api.ErrRange},
		{all(list, eq(v(greatest), none)), []api.Value{single}, -1, api.ErrRange},
		{open, []api.Value{number(2047)}, -1, api.ErrSize},
		{eq(succ(v(0)), succ(v(0))), []api.Value{number(2046)}, most, api.ErrSize},
		{eq(v(0), zero), []api.Value{number(4094)}, most, api.ErrSize},
		{eq(v(0), zero), []api.Value{number(4095)}, most, api.ErrSize},
		{and(eq(v(1), v(1)), undecided), []api.Value{number(2047), number(0)}, -1, api.ErrSize},
		{and(eq(v(1), v(1)), eq(v(5), none)), []api.Value{number(2047), single}, -1, api.ErrSize},
		// Truth.
		{eq(v(far+1), zero), nil, -1, api.ErrScope},
		{eq(v(far), zero), []api.Value{number(1)}, -1, api.ErrScope},
		{open, nil, -1, api.ErrScope},
		{eq(v(0), v(1)), []api.Value{number(1)}, -1, api.ErrScope},
		{eq(v(0), v(2)), []api.Value{number(1), number(2)}, -1, api.ErrScope},
		{and(undecided, eq(v(1), zero)), []api.Value{number(1)}, -1, api.ErrScope},
		{open, []api.Value{single}, -1, api.ErrType},
		{open, []api.Value{numbers(1)}, -1, api.ErrType},
		{open, []api.Value{number(1), pack(number(1), number(1))}, -1, api.ErrType},
		{eq(app(v(0), zero), zero), []api.Value{number(1)}, -1, api.ErrType},
		{eq(v(0), v(1)), []api.Value{numbers(), number(1)}, -1, api.ErrType},
		{and(undecided, eq(v(0), v(1))), []api.Value{numbers(), number(1)}, -1, api.ErrType},
		{undecided, []api.Value{number(1)}, -1, api.ErrUndecided},
		{ex(nat, eq(v(0), v(1))), []api.Value{number(1)}, most + 1, api.ErrUndecided},
		{open, []api.Value{number(1)}, -1, api.ErrRange},
		{open, []api.Value{number(1)}, most + 1, api.ErrRange},
		{open, []api.Value{number(1)}, least, api.ErrRange},
		{open, []api.Value{number(1)}, greatest, api.ErrRange},
		{open, []api.Value{number(1)}, 0, api.ErrSteps},
		{open, []api.Value{number(1)}, 3, api.ErrSteps},
		{open, []api.Value{number(1)}, 4, api.OK},
		{exBelow(v(1), fat(2, 682, 0)), []api.Value{number(2)}, 9, api.ErrSize},
		{exBelow(v(1), fat(2, 682, 0)), []api.Value{number(2)}, 8, api.ErrSteps},
		{exBelow(v(1), fat(2, 682, 0)), []api.Value{number(1)}, 7, api.OK},
	} {
		got := holds(q.f, q.l, q.work)
		must(t, strconv.Itoa(i), got.err, q.want)
		if q.want != api.OK {
			must(t, strconv.Itoa(i)+": results with an error", got, outcome{err: q.want})
		}
	}
}

// P9.2: values of a wrong form, at any place.
func TestWrongValues(t *testing.T) {
	for i, bad := range samples.WrongValues() {
		for j, l := range [][]api.Value{
			{bad}, {pack(single, bad)}, {pack(pack(bad, number(1)), single)}, {number(1), bad}, {bad, number(1)}, {bad, number(4096)}, {number(0), pack(numbers(), bad), number(4096)},
		} {
			must(t, fmt.Sprint("value ", i, " at place ", j), holds(eq(v(0), v(0)), l, -1), outcome{err: api.ErrForm})
			must(t, fmt.Sprint("value ", i, " at place ", j, " for nothing"), holds(yes, l, most), outcome{err: api.ErrForm})
		}
	}
}

// P9.2: it is the formula with the terms in it that must be decidable. P9.3: here it is the one without.
func TestBecomesDecidable(t *testing.T) {
	f := all(nat, imp(eq(app(value.Sub(), succ(v(0)), two), v(1)), eq(v(0), v(0))))
	must(t, "with 0 it says that a number is less", holds(f, []api.Value{number(0)}, most), outcome{true, 3 + 3 + 5, api.OK})
	must(t, "with 1 it does not", holds(f, []api.Value{number(1)}, most), outcome{err: api.ErrUndecided})
	must(t, "without a number neither", leastOf(f, 1, most), found{err: api.ErrUndecided})
	is, err := class.Decidable(f)
	must(t, "decidable", []any{is, err}, []any{false, api.OK})
}

// P9.3: the first number, and the work of all that were tried.
func TestLeast(t *testing.T) {
	square := eq(app(value.Times(), v(0), v(0)), num(9))
	divisor := exBelow(succ(v(1)), eq(app(value.Times(), v(1), v(0)), num(6)))
	must(t, "square", leastOf(square, 10, most).k, 3)
	must(t, "proper divisor", leastOf(and(imp(eq(v(0), num(1)), falsum()), divisor), 7, most).ok, true)
	for i, q := range []struct {
		f     api.Formula
		bound int
		k     int
		ok    bool
		work  int
	}{
		{eq(v(0), two), 5, 2, true, 4 + 5 + 6},
		{eq(v(0), two), 3, 2, true, 4 + 5 + 6},
		{eq(v(0), two), 2, 0, false, 4 + 5},
		{eq(v(0), two), 1, 0, false, 4},
		{eq(v(0), two), 0, 0, false, 0},
		{yes, 0, 0, false, 0},
		{yes, 1, 0, true, 2},
		{yes, api.MaxTerm, 0, true, 2},
		{falsum(), 7, 0, false, 21},
		{eq(v(0), v(0)), 9, 0, true, 2},
		{imp(eq(v(0), zero), falsum()), 9, 1, true, 2 + 3 + 3},
		{imp(and(imp(eq(v(0), zero), falsum()), imp(eq(v(0), num(1)), falsum())), falsum()), 9, 0, true, 2 + 3},
		{exBelow(v(1), eq(succ(v(0)), v(1))), 9, 1, true, 1 + 2 + 1 + 2 + 2},
		{allBelow(v(1), eq(v(0), zero)), 9, 0, true, 1},
		{imp(allBelow(v(1), eq(v(0), zero)), falsum()), 3, 2, true, 1 + 3 + 2 + 1 + 2 + 3 + 3 + 1 + 2 + 1 + 3},
		{exBelow(two, and(eq(v(1), num(1)), eq(v(0), num(1)))), 4, 1, true, 3 + 4 + 4 + 3 + 5 + 3 + 5 + 4},
		{fat(1, 682, 0), 2, 0, false, 3 + 3}, // with as many nodes as may be
		{imp(fat(1, 682, 0), falsum()), 2, 0, true, 3},
	} {
		what := strconv.Itoa(i)
		want := found{q.k, q.ok, q.work, api.OK}
		for _, limit := range []int{q.work, q.work + 1, most} {
			must(t, what, leastOf(q.f, q.bound, limit), want)
		}
		for _, limit := range fewer(q.work) {
			must(t, what+" with less work", leastOf(q.f, q.bound, limit), found{err: api.ErrSteps})
		}
	}
	must(t, "all numbers", leastOf(falsum(), api.MaxTerm, 3*4096), found{work: 3 * 4096})
	must(t, "all numbers with less work", leastOf(falsum(), api.MaxTerm, 3*4096-1), found{err: api.ErrSteps})
}

// P9.3: the errors of Least, in their order.
func TestLeastErrors(t *testing.T) {
	undecided, large := ex(nat, eq(v(0), v(1))), fat(2, 682, 0)
	for i, q := range []struct {
		f    api.Formula
		want api.Errno
	}{
		{api.Formula{}, api.ErrForm}, {and(eq(v(1), zero), api.Formula{}), api.ErrForm}, {eq(num(4094), v(0)), api.ErrSize}, {and(eq(v(1), zero), eq(zero, num(4096))), api.ErrSize},
		{eq(v(1), zero), api.ErrScope}, {eq(zero, v(greatest)), api.ErrScope}, {allBelow(v(2), yes), api.ErrScope}, {all(nat, eq(v(2), zero)), api.ErrScope}, {and(undecided, eq(v(1), zero)), api.ErrScope},
		{eq(node(api.TermFst, v(0)), zero), api.ErrType}, {eq(app(v(0), zero), zero), api.ErrType}, {eq(none, v(0)), api.ErrType}, {and(undecided, eq(v(0), only)), api.ErrType}, {all(list, eq(v(0), v(1))), api.ErrType},
		{undecided, api.ErrUndecided}, {all(nat, yes), api.ErrUndecided}, {and(falsum(), undecided), api.ErrUndecided}, {imp(yes, all(list, eq(v(1), zero))), api.ErrUndecided}, {allBelow(v(0), yes), api.ErrUndecided},
	} {
		for _, bound := range []int{-1, 0, 1, api.MaxTerm, api.MaxTerm + 1, least, greatest} {
			for _, work := range []int{-1, 0, most, most + 1, least, greatest} {
				must(t, strconv.Itoa(i), leastOf(q.f, bound, work), found{err: q.want})
			}
		}
	}
	for i, q := range []struct {
		f           api.Formula
		bound, work int
		want        api.Errno
	}{
		{yes, -1, 0, api.ErrRange}, {yes, api.MaxTerm + 1, 0, api.ErrRange}, {yes, least, most, api.ErrRange}, {yes, greatest, most, api.ErrRange}, {yes, 1 << 32, most, api.ErrRange},
		{yes, 0, -1, api.ErrRange}, {yes, 0, most + 1, api.ErrRange}, {yes, 3, least, api.ErrRange}, {yes, 3, greatest, api.ErrRange}, {yes, -1, -1, api.ErrRange},
		{yes, 1, 0, api.ErrSteps}, {yes, 1, 1, api.ErrSteps}, {falsum(), 2, 5, api.ErrSteps},
		// A number is put before any more work is done.
		{large, 2, 4, api.ErrSize}, {large, 2, 3, api.ErrSteps}, {large, 2, most, api.ErrSize}, {large, api.MaxTerm, most, api.ErrSize}, {large, 1, 3, api.ErrSteps},
		{exBelow(two, large), 1, 9, api.ErrSize}, {exBelow(two, large), 1, 8, api.ErrSteps}, {exBelow(two, large), 0, 0, api.OK},
	} {
		must(t, strconv.Itoa(i)+" in order", leastOf(q.f, q.bound, q.work), found{err: q.want})
	}
}
