package decide_test

import (
	"slices"
	"strconv"
	"testing"

	"proofprograms/api"
	"proofprograms/class"
	"proofprograms/formula"
	"proofprograms/machine"
	"proofprograms/samples"
	"proofprograms/value"
)

// closed returns a term, depth functions of its own above it, with numbers in place of its free variables, the last one in place of the variable 0.
func closed(t api.Term, depth int, l []int) api.Term {
	if t.Kind == api.TermVar && t.Index >= depth {
		return num(l[len(l)-1-(t.Index-depth)])
	}
	if t.Kind == api.TermLam {
		depth++
	}
	t.Args = slices.Clone(t.Args)
	for i, a := range t.Args {
		t.Args[i] = closed(a, depth, l)
	}
	return t
}

// nodes returns how many nodes a formula has with numbers in place of its free variables, the bound ones being nodes as they stand.
func nodes(f api.Formula, depth int, l []int) int {
	if slices.Contains(samples.Quantifiers(), f.Kind) {
		depth++
	}
	n := 1
	for _, t := range f.Terms {
		n += nodesOf(t, depth, l)
	}
	for _, a := range f.Args {
		n += nodes(a, depth, l)
	}
	return n
}

func nodesOf(t api.Term, depth int, l []int) int {
	if t.Kind == api.TermVar && t.Index >= depth {
		return 1 + l[len(l)-1-(t.Index-depth)]
	}
	if t.Kind == api.TermLam {
		depth++
	}
	n := 1
	for _, a := range t.Args {
		n += nodesOf(a, depth, l)
	}
	return n
}

// naive decides as the chapter says it, with the numbers of variables kept beside the formula. It panics with an api.Errno.
type naive struct{ work, limit int }

func (m *naive) number(t api.Term, l []int) int {
	x, work, err := machine.Eval(closed(t, 0, l), m.limit-m.work)
	if err != api.OK {
		panic(err)
	}
	m.work += work
	return x.Num
}

func (m *naive) truth(f api.Formula, l []int) bool {
	switch f.Kind {
	case api.FormEq:
		a, b := m.number(f.Terms[0], l), m.number(f.Terms[1], l)
		return a == b
	case api.FormAnd:
		return m.truth(f.Args[0], l) && m.truth(f.Args[1], l)
	case api.FormImp:
		return !m.truth(f.Args[0], l) || m.truth(f.Args[1], l)
	}
	limit, body := f.Args[0].Args[0].Terms[0].Args[1], f.Args[0].Args[1]
	below := m.number(limit, append(slices.Clone(l), 0)) // the number does not occur in it
	for k := range below {
		if m.work++; m.work > m.limit {
			panic(api.ErrSteps)
		}
		is := m.instance(body, append(slices.Clone(l), k))
		if is != (f.Kind == api.FormAll) {
			return is
		}
	}
	return f.Kind == api.FormAll
}

func (m *naive) instance(f api.Formula, l []int) bool {
	if l[len(l)-1] >= api.MaxTerm || nodes(f, 0, l) > api.MaxFormula {
		panic(api.ErrSize)
	}
	return m.truth(f, l)
}

// naively returns what a function that may panic with an api.Errno returns, and the error.
func naively(f func() bool) (is bool, err api.Errno) {
	defer func() {
		if x := recover(); x != nil {
			is, err = false, x.(api.Errno)
		}
	}()
	return f(), api.OK
}

// P9.1: truth, work and errors of many formulas as a naive reading of the chapter has them.
func TestNaive(t *testing.T) {
	c := samples.Choices{State: 9}
	count := map[bool]int{}
	bounded, steps := 0, 0
	for i := range 4000 {
		what := strconv.Itoa(i)
		f := c.Decidable(nil, 1+c.Below(6))
		if formula.Check(f) != api.OK {
			continue
		}
		const limit = 3000
		m := naive{limit: limit}
		is, err := naively(func() bool { return m.truth(f, nil) })
		if err != api.OK {
			must(t, what, truth(f, limit), outcome{err: err})
			steps++
			continue
		}
		want := outcome{is, m.work, api.OK}
		must(t, what, truth(f, limit), want)
		must(t, what+" with just as much work", truth(f, m.work), want)
		must(t, what+" with all that may be", truth(f, most), want)
		must(t, what+" with one unit less", truth(f, m.work-1), outcome{err: api.ErrSteps})
		must(t, what+" with half of it", truth(f, m.work/2), outcome{err: api.ErrSteps})
		count[is]++
		if free, _ := class.Free(f); !free && m.work > 20 {
			bounded++
		}
	}
	if count[true] < 1000 || count[false] < 1000 || bounded < 400 {
		t.Errorf("only %v, %d with bounded quantifiers, and %d with an error", count, bounded, steps)
	}
}

// P9.2 and P9.3: Holds and Least of many formulas as a naive reading of the chapter has them.
func TestNaiveNumbers(t *testing.T) {
	c := samples.Choices{State: 99}
	const limit, bound = 2000, 6
	some, none := 0, 0
	for i := range 1500 {
		what := strconv.Itoa(i)
		f := c.Decidable([]api.Type{nat}, 1+c.Below(5))
		if formula.Check(f) != api.OK {
			continue
		}
		m := naive{limit: limit}
		want := found{}
		for k := 0; k < bound && !want.ok; k++ {
			one := naive{limit: limit}
			is, err := naively(func() bool { return one.instance(f, []int{k}) })
			alone := outcome{is, one.work, err}
			if err != api.OK {
				alone = outcome{err: err}
			}
			must(t, what+": Holds", holds(f, []api.Value{number(k)}, limit), alone)
			if is, want.err = naively(func() bool { return m.instance(f, []int{k}) }); want.err != api.OK {
				break
			}
			if is {
				want.k, want.ok = k, true
			}
		}
		if want.err == api.OK {
			want.work = m.work
		}
		must(t, what+": Least", leastOf(f, bound, limit), want)
		if want.ok && want.k > 0 {
			some++
		}
		if want == (found{work: m.work}) {
			none++
		}
	}
	if some < 30 || none < 100 {
		t.Errorf("only %d and %d formulas tell anything", some, none)
	}
}

// The chapter's consequences: And, Imp and Not are what they are among truth values; Or is not decidable.
func TestConnectivesOfMany(t *testing.T) {
	c := samples.Choices{State: 90}
	told := 0
	for i := range 600 {
		what := strconv.Itoa(i)
		a, b := c.Decidable(nil, 4), c.Decidable(nil, 4)
		x, y := truth(a, 9000), truth(b, 9000)
		if x.err != api.OK || y.err != api.OK {
			continue
		}
		told++
		not, _ := formula.Not(a)
		or, _ := formula.Or(a, b)
		must(t, what+": truth", []bool{truth(and(a, b), most).is, truth(imp(a, b), most).is, truth(not, most).is}, []bool{x.is && y.is, !x.is || y.is, !x.is})
		second, last := 0, 0
		if x.is {
			second, last = y.work, 3
		}
		must(t, what+": work", []int{truth(and(a, b), most).work, truth(imp(a, b), most).work, truth(not, most).work}, []int{x.work + second, x.work + second, x.work + last})
		must(t, what+": or", truth(or, most), outcome{err: api.ErrUndecided})
	}
	if told < 400 {
		t.Errorf("only %d formulas tell anything", told)
	}
}

// The chapter's consequences: the truth of a bounded quantifier is that of all, or of some, of its instances.
func TestInstances(t *testing.T) {
	c := samples.Choices{State: 91}
	count := map[bool]int{}
	for i := range 3000 {
		what := strconv.Itoa(i)
		limit, body := c.OfType(nil, nat, 1+c.Below(3)), c.Decidable([]api.Type{nat}, 3)
		below, _, err := machine.Eval(limit, 100)
		if err != api.OK {
			continue
		}
		every, some := true, false
		for k := range below.Num {
			one := holds(body, []api.Value{number(k)}, 9000)
			must(t, what+": instance", one.err, api.OK)
			every, some = every && one.is, some || one.is
		}
		forAll, _ := class.Bounded(true, limit, body)
		forSome, _ := class.Bounded(false, limit, body)
		must(t, what, []bool{truth(forAll, most).is, truth(forSome, most).is}, []bool{every, some})
		if below.Num > 1 {
			count[every]++
			count[some]++
		}
	}
	if count[true] < 50 || count[false] < 50 {
		t.Errorf("only %v instances tell anything", count)
	}
}

// The chapter's example.
func TestExample(t *testing.T) {
	for a, want := range map[int]bool{1: true, 2: false} {
		f, err := class.Less(num(a), two)
		must(t, "Less", err, api.OK)
		must(t, strconv.Itoa(a), truth(f, most).is, want)
	}
}

// R2: arguments stay as they were, and so does what lies behind them in their memory. R4: results depend on arguments alone.
func TestArgumentsStay(t *testing.T) {
	sum := app(value.Plus(), v(1), v(2))
	f := samples.MarkedFormula(allBelow(v(1), imp(exBelow(sum, eq(v(0), v(1))), and(eq(v(0), v(0)), eq(v(1), app(identity, v(1)))))))
	g := samples.MarkedFormula(exBelow(num(3), allBelow(v(1), eq(app(lam(nat, v(1)), zero), zero))))
	rest := []int{1, 2, 77}
	l := []api.Value{pack(number(1), samples.Plain(api.ValueList, 0, rest[:2])), number(3), number(77)}
	was, wasG, wasV := samples.DeepFormula(f), samples.DeepFormula(g), samples.DeepValue(l[0])
	call := func() []any {
		return []any{truth(g, most), holds(f, l[:2], most), leastOf(f, 5, most), truth(f, most), holds(g, l[:1], most), leastOf(g, 9, most)}
	}
	first := call()
	must(t, "once more", call(), first)
	must(t, "formulas", []api.Formula{samples.DeepFormula(f), samples.DeepFormula(g)}, []api.Formula{was, wasG})
	must(t, "behind the ends", []bool{samples.FormulaIsMarked(f), samples.FormulaIsMarked(g)}, []bool{true, true})
	must(t, "values", []any{samples.DeepValue(l[0]), l[1], l[2], rest}, []any{wasV, number(3), number(77), []int{1, 2, 77}})
	// nil and empty slices are one.
	empty := api.Formula{Kind: api.FormEq, Type: api.Type{Args: []api.Type{}}, Terms: []api.Term{{Kind: api.TermZero, Args: []api.Term{}}, zero}, Args: []api.Formula{}}
	must(t, "empty slices", []any{truth(empty, 2), holds(empty, []api.Value{}, 2), holds(empty, nil, 2), leastOf(empty, 1, 2)}, []any{outcome{true, 2, api.OK}, outcome{true, 2, api.OK}, outcome{true, 2, api.OK}, found{0, true, 2, api.OK}})
}
