package machine_test

import (
	"fmt"
	"slices"
	"testing"

	"proofprograms/api"
	"proofprograms/machine"
	"proofprograms/reduce"
	"proofprograms/samples"
	"proofprograms/terms"
	"proofprograms/types"
	"proofprograms/value"
)

// naive evaluates as the chapter says it, without a thought of memory: numbers are ints, lists slices, pairs arrays, and closures functions.
type naive struct{ work, limit int }

// tooMuch is what naive panics with where there would be more work than the limit.
type tooMuch struct{}

func (m *naive) eval(t api.Term, variables []any) any {
	if m.work++; m.work > m.limit {
		panic(tooMuch{})
	}
	part := func(i int) any { return m.eval(t.Args[i], variables) }
	switch t.Kind {
	case api.TermVar:
		return variables[len(variables)-1-t.Index]
	case api.TermLam:
		return func(x any) any { return m.eval(t.Args[0], append(slices.Clone(variables), x)) }
	case api.TermApp:
		f, a := part(0), part(1)
		return f.(func(any) any)(a)
	case api.TermZero:
		return 0
	case api.TermSucc:
		return part(0).(int) + 1
	case api.TermNil:
		return []int{}
	case api.TermCons:
		h, l := part(0), part(1)
		return append([]int{h.(int)}, l.([]int)...)
	case api.TermPair:
		a, c := part(0), part(1)
		return [2]any{a, c}
	case api.TermFst:
		return part(0).([2]any)[0]
	case api.TermSnd:
		return part(0).([2]any)[1]
	case api.TermUnit:
		return struct{}{}
	}
	result, f, over := part(0), part(1).(func(any) any), part(2)
	if t.Kind == api.TermRec {
		for k := 0; k < over.(int); k++ {
			result = f(k).(func(any) any)(result)
		}
		return result
	}
	l := over.([]int)
	for i := len(l) - 1; i >= 0; i-- {
		result = f(l[i]).(func(any) any)(l[i+1:]).(func(any) any)(result)
	}
	return result
}

// into returns what naive has for a value, and back the value of what naive has.
func into(x api.Value) any {
	switch x.Kind {
	case api.ValueNum:
		return x.Num
	case api.ValueList:
		return x.List
	case api.ValuePair:
		return [2]any{into(x.Args[0]), into(x.Args[1])}
	}
	return struct{}{}
}

func back(x any) api.Value {
	switch x := x.(type) {
	case int:
		return num(x)
	case []int:
		return nums(x...)
	case [2]any:
		return two(back(x[0]), back(x[1]))
	}
	return single
}

// naively returns the outcome of a call whose arguments are as they should be.
func naively(f api.Term, l []api.Value, limit int) (o outcome) {
	m := naive{limit: limit}
	defer func() {
		if x := recover(); x == (tooMuch{}) {
			o = outcome{err: api.ErrSteps}
		} else if x != nil {
			panic(x)
		}
	}()
	x := m.eval(f, nil)
	for _, a := range l {
		x = x.(func(any) any)(into(a))
	}
	return outcome{back(x), m.work, api.OK}
}

// plains are types without functions.
var plains = []api.Type{nat, list, unit, both(nat, list), both(both(unit, nat), both(list, nat))}

// program is a closed function with values for it.
type program struct {
	f api.Term
	l []api.Value
}

// programs makes about so many of them, with at most so many arguments: those whose terms and types are not too large.
func programs(count, arguments, depth int) []program {
	c := samples.Choices{State: uint64(count + depth)}
	var all []program
	for range count {
		t := plains[c.Below(len(plains))]
		var l []api.Value
		for range c.Below(arguments + 1) {
			u := plains[c.Below(len(plains))]
			t = fun(u, t)
			l = append([]api.Value{c.Value(u, 3)}, l...)
		}
		f := c.OfType(nil, t, 1+c.Below(depth))
		if _, err := terms.TypeOf(nil, f); err == api.OK {
			all = append(all, program{f, l})
		}
	}
	return all
}

// P6.1 and P6.2: values, work and ErrSteps of many calls as a naive reading of the chapter has them.
func TestNaive(t *testing.T) {
	const limit = 5000
	fine, calls := 0, 0
	for i, p := range programs(6000, 3, 8) {
		what := fmt.Sprint("program ", i)
		want := naively(p.f, p.l, limit)
		must(t, what, called(p.f, p.l, limit), want)
		if want.err != api.OK {
			continue
		}
		fine++
		if want.work > 20 {
			calls++
		}
		must(t, what+" with just as much work", called(p.f, p.l, want.work), want)
		must(t, what+" with one unit less", called(p.f, p.l, want.work-1), outcome{err: api.ErrSteps})
		must(t, what+" with half of it", called(p.f, p.l, want.work/2), outcome{err: api.ErrSteps})
		must(t, what+" with all that may be", called(p.f, p.l, most), want)
	}
	if fine < 4000 || calls < 1500 {
		t.Errorf("only %d and %d programs tell anything", fine, calls)
	}
}

// P6.1: Eval of all small terms: the errors of terms.TypeOf, ErrType for functions, and the values of the others.
func TestSmall(t *testing.T) {
	for _, x := range samples.Small(4) {
		what := fmt.Sprintf("%+v", x)
		u, err := terms.TypeOf(nil, x)
		if err != api.OK {
			must(t, what, evaluated(x, most), outcome{err: err})
			continue
		}
		if level(u) > 0 {
			must(t, what, evaluated(x, most), outcome{err: api.ErrType})
			continue
		}
		must(t, what, evaluated(x, most), naively(x, nil, most))
	}
}

// level returns 0 for types without functions, and more for others.
func level(t api.Type) int {
	n := 0
	if t.Kind == api.TypeFun {
		n = 1
	}
	for _, a := range t.Args {
		n += level(a)
	}
	return n
}

// The chapter's consequences: Eval has the value of the normal form.
func TestNormalForm(t *testing.T) {
	told := 0
	for i, p := range programs(3000, 0, 7) {
		normal, _, err := reduce.Normal(p.f, 1000)
		got := evaluated(p.f, most)
		if err != api.OK || got.err != api.OK {
			continue
		}
		want, err := value.Read(normal)
		must(t, fmt.Sprint(i), got, outcome{want, got.work, err})
		told++
		u, _ := terms.TypeOf(nil, p.f)
		if typ, _ := value.TypeOf(got.x); !types.Same(typ, u) {
			t.Errorf("%d: a value of the type %+v, want %+v", i, typ, u)
		}
	}
	if told < 2000 {
		t.Errorf("only %d terms tell anything", told)
	}
}

// The chapter's consequences: Call is Eval of terms.Apply to the terms of the values, but for the work, which is greater by the nodes TermApp and those of the values.
func TestCallIsEval(t *testing.T) {
	told := 0
	for i, p := range programs(3000, 4, 7) {
		more := 0
		var l []api.Term
		for _, x := range p.l {
			a, err := value.Term(x)
			if err != api.OK {
				t.Fatalf("%d: error %d", i, err)
			}
			n, _ := terms.Size(a)
			more += 1 + n
			l = append(l, a)
		}
		applied, err := terms.Apply(p.f, l)
		got := called(p.f, p.l, 9000)
		if err != api.OK || got.err != api.OK {
			continue
		}
		must(t, fmt.Sprint(i), evaluated(applied, most), outcome{got.x, got.work + more, api.OK})
		told++
	}
	if told < 2000 {
		t.Errorf("only %d calls tell anything", told)
	}
}

// The chapter's example, and the numbers of chapter 5.
func TestArithmetic(t *testing.T) {
	must(t, "2", evaluated(succ(succ(zero)), most), outcome{num(2), 3, api.OK})
	for a := range 12 {
		for b := range 12 {
			for name, q := range map[string]struct {
				f    api.Term
				want int
			}{
				"sum":        {value.Plus(), a + b},
				"product":    {value.Times(), a * b},
				"difference": {value.Sub(), max(a-b, 0)},
				"distance":   {value.Distance(), max(a-b, b-a)},
			} {
				got := called(q.f, []api.Value{num(a), num(b)}, most)
				must(t, fmt.Sprint(name, a, b), got, outcome{num(q.want), got.work, api.OK})
			}
		}
	}
}

// R2: arguments stay as they were, and so does what lies behind them in their memory.
func TestArgumentsStay(t *testing.T) {
	numbers := []int{3, 0, 1, 77}
	parts := []api.Value{samples.Plain(api.ValueList, 0, numbers[:3]), num(2), num(77)}
	l := []api.Value{{Kind: api.ValuePair, Args: parts[:2]}, num(5), num(77)}
	args := []api.Term{v(1), v(0), node(77)}
	f := lams(api.Term{Kind: api.TermPair, Args: args[:2]}, both(list, nat), nat)
	before, was := samples.Deep(f), samples.DeepValue(l[0])

	want := outcome{two(two(nums(3, 0, 1), num(2)), num(5)), 5, api.OK}
	got := called(f, l[:2], most)
	must(t, "call", got, want)
	must(t, "value", outcome{x: l[0]}, outcome{x: was})
	must(t, "behind the values", outcome{two(l[2], parts[2]), numbers[3], api.OK}, outcome{two(num(77), num(77)), 77, api.OK})
	if !terms.Same(f, before) || !terms.Same(args[2], node(77)) {
		t.Errorf("the term is %+v", f)
	}

	numbers[0], parts[1], l[1] = 9, single, single
	must(t, "the result does not follow what becomes of the values", got, want)
	must(t, "once more", called(f, []api.Value{was, num(5)}, most), want)
	machine.Eval(f, most)
	if !terms.Same(f, before) {
		t.Errorf("the term is %+v", f)
	}
}
