package types_test

import (
	"reflect"
	"slices"
	"strconv"
	"testing"

	"proofprograms/api"
	"proofprograms/samples"
	"proofprograms/types"
)

// The calls have exactly these signatures.
var (
	_ func(api.Type) api.Errno                         = types.Check
	_ func(api.Type) (int, api.Errno)                  = types.Size
	_ func(a, b api.Type) bool                         = types.Same
	_ func(api.Type) (int, api.Errno)                  = types.Level
	_ func(api.Type) (bool, api.Errno)                 = types.Data
	_ func(api.Type) ([]api.Type, api.Type, api.Errno) = types.Result
	_ func([]api.Type, api.Type) (api.Type, api.Errno) = types.Function
	_ func([]api.Type) api.Errno                       = types.Context
)

// What the tests are made of.
var (
	nat, list, unit = samples.Nat, samples.List, samples.Unit
	pair, fun, deep = samples.Both, samples.Fun, samples.DeepType
)

// node returns any tree, whether it is a type or not.
func node(kind int, l ...api.Type) api.Type { return api.Type{Kind: kind, Args: l} }

// right returns a type with 2*n+1 nodes, nested in its second Args.
func right(kind, n int, last api.Type) api.Type {
	t := last
	for range n {
		t = node(kind, nat, t)
	}
	return t
}

// left returns a type with 2*n+1 nodes, nested in its first Args.
func left(kind, n int, last api.Type) api.Type {
	t := last
	for range n {
		t = node(kind, t, nat)
	}
	return t
}

// full returns a type with 2^(depth+1) - 1 nodes.
func full(kind, depth int) api.Type {
	if depth == 0 {
		return nat
	}
	return node(kind, full(kind, depth-1), full(kind, depth-1))
}

// wide returns a node with many Args, which no kind has.
func wide(kind, n int) api.Type { return node(kind, slices.Repeat([]api.Type{nat}, n)...) }

// all returns all types with at most most nodes.
func all(most int) []api.Type {
	by := map[int][]api.Type{1: {nat, list, unit}}
	l := slices.Clone(by[1])
	for n := 3; n <= most; n += 2 {
		for i := 1; i < n-1; i += 2 {
			for _, a := range by[i] {
				for _, b := range by[n-1-i] {
					by[n] = append(by[n], pair(a, b), fun(a, b))
				}
			}
		}
		l = append(l, by[n]...)
	}
	return l
}

// must fails the test if what a call returned is not what it should be (reflect tells nil from empty slices apart: nil is the zero value).
func must(t *testing.T, what string, got, want any) {
	t.Helper()
	if !reflect.DeepEqual(got, want) {
		t.Errorf("%s: got %+v, want %+v", what, got, want)
	}
}

// errorsOf returns what the calls that take one type say of it, which is one error for all of them, and fails if a call returns anything else with it.
func errorsOf(t *testing.T, what string, x api.Type) api.Errno {
	t.Helper()
	err := types.Check(x)
	size, e1 := types.Size(x)
	level, e2 := types.Level(x)
	data, e3 := types.Data(x)
	args, rest, e4 := types.Result(x)
	function, e5 := types.Function(nil, x)
	e6 := types.Context([]api.Type{x})
	must(t, what+": errors", []api.Errno{e1, e2, e3, e4, e5, e6}, []api.Errno{err, err, err, err, err, err})
	if err != api.OK {
		must(t, what+": results", []any{size, level, data, len(args), rest, function}, []any{0, 0, false, 0, api.Type{}, api.Type{}})
	}
	return err
}

// P1.1: Check and Size of types.
func TestValid(t *testing.T) {
	for _, q := range []struct {
		name string
		t    api.Type
		size int
	}{
		{"nat", nat, 1},
		{"list", list, 1},
		{"unit", unit, 1},
		{"no Args as an empty slice", api.Type{Kind: api.TypeNat, Args: []api.Type{}}, 1},
		{"no Args with spare capacity", api.Type{Kind: api.TypeUnit, Args: make([]api.Type, 0, 4)}, 1},
		{"pair", pair(nat, list), 3},
		{"function", fun(nat, unit), 3},
		{"parts on both sides", fun(pair(nat, list), pair(unit, fun(nat, nat))), 9},
		{"63 nodes to the right", right(api.TypeFun, 31, list), 63},
		{"63 nodes to the left", left(api.TypePair, 31, list), 63},
		{"63 nodes on all sides", full(api.TypeFun, 5), 63},
	} {
		must(t, q.name, errorsOf(t, q.name, q.t), api.OK)
		size, _ := types.Size(q.t)
		must(t, q.name+": Size", size, q.size)
	}
}

// P1.1: a node that is not as it should be, at any place of a tree of any size, is the first error.
func TestForm(t *testing.T) {
	for i, bad := range []api.Type{
		{},
		node(-1), node(6), node(1 << 62), node(-1 << 63),
		node(-api.TypeFun, nat, nat), node(0, nat, nat), node(6, nat, nat),
		node(api.TypeNat, nat), node(api.TypeList, nat), node(api.TypeUnit, unit),
		node(api.TypeNat, nat, nat), node(api.TypeList, nat, nat), node(api.TypeUnit, nat, nat),
		node(api.TypePair), node(api.TypeFun), node(api.TypePair, nat), node(api.TypeFun, nat),
		node(api.TypePair, nat, nat, nat), node(api.TypeFun, nat, nat, nat),
		wide(api.TypeNat, 1000), wide(api.TypePair, 1000), wide(api.TypeFun, 1<<16),
	} {
		for name, x := range map[string]api.Type{
			"at the root":             bad,
			"first":                   fun(bad, nat),
			"second":                  pair(nat, bad),
			"below, to the right":     right(api.TypeFun, 20, bad),
			"below, to the left":      left(api.TypePair, 20, bad),
			"beside too many nodes":   fun(full(api.TypePair, 7), bad),
			"before too many nodes":   fun(bad, full(api.TypePair, 7)),
			"below too many nodes":    right(api.TypePair, 1000, bad),
			"below them, to the left": left(api.TypeFun, 1000, bad),
		} {
			what := strconv.Itoa(i) + " " + name
			must(t, what, errorsOf(t, what, x), api.ErrForm)
		}
	}
}

// P1.1: too many nodes, all of them as they should be.
func TestTooLarge(t *testing.T) {
	for name, x := range map[string]api.Type{
		"65 nodes to the right":    right(api.TypeFun, 32, nat),
		"65 nodes to the left":     left(api.TypePair, 32, unit),
		"127 nodes":                full(api.TypePair, 6),
		"a million nodes":          full(api.TypeFun, 19),
		"2^16 levels to the right": right(api.TypeFun, 1<<16, nat),
		"2^16 levels to the left":  left(api.TypePair, 1<<16, nat),
	} {
		must(t, name, errorsOf(t, name, x), api.ErrSize)
	}
	what := "2^16 levels with a wrong node below"
	must(t, what, errorsOf(t, what, left(api.TypeFun, 1<<16, api.Type{})), api.ErrForm)
}

// P1.1: Same, of types and of other trees.
func TestSame(t *testing.T) {
	for i, q := range []struct {
		a, b api.Type
		want bool
	}{
		{nat, nat, true},
		{nat, list, false},
		{api.Type{}, api.Type{}, true},
		{api.Type{}, nat, false},
		{api.Type{Kind: 9}, api.Type{Kind: 9, Args: []api.Type{}}, true},
		{node(-5, nat), node(-5, nat), true},
		{node(-5, nat), node(5, nat), false},
		{node(9, nat), node(9), false},
		{node(9, nat), node(9, nat, nat), false},
		{node(9, nat, list), node(9, nat, nat), false},
		{node(9, node(8), node(7)), node(9, node(8), node(7)), true},
		{node(9, node(8), node(7)), node(9, node(7), node(8)), false},
		{pair(nat, nat), fun(nat, nat), false},
		{fun(nat, list), fun(list, nat), false},
		{pair(fun(nat, nat), nat), pair(nat, fun(nat, nat)), false},
		{right(api.TypeFun, 1<<16, nat), right(api.TypeFun, 1<<16, nat), true},
		{right(api.TypeFun, 1<<16, nat), right(api.TypeFun, 1<<16, list), false},
		{left(api.TypeFun, 1<<16, nat), left(api.TypeFun, 1<<16, nat), true},
		{left(api.TypeFun, 1<<16, nat), left(api.TypeFun, 1<<16-1, nat), false},
		{wide(api.TypeNat, 1<<16), wide(api.TypeNat, 1<<16), true},
		{full(api.TypePair, 16), full(api.TypePair, 16), true},
	} {
		must(t, strconv.Itoa(i), types.Same(q.a, q.b), q.want)
		must(t, strconv.Itoa(i)+" turned", types.Same(q.b, q.a), q.want)
	}
	l := all(5)
	for i, a := range l {
		for j, b := range l {
			must(t, strconv.Itoa(i)+" and "+strconv.Itoa(j), types.Same(deep(a), b), i == j)
		}
	}
}

// P1.2: Level, Data and Result.
func TestParts(t *testing.T) {
	first := fun(nat, nat)
	second := fun(first, nat)
	for i, q := range []struct {
		t     api.Type
		level int
		data  bool
		args  []api.Type
		rest  api.Type
	}{
		{nat, 0, true, nil, nat},
		{list, 0, true, nil, list},
		{unit, 0, true, nil, unit},
		{pair(nat, pair(list, unit)), 0, true, nil, pair(nat, pair(list, unit))},
		{first, 1, false, []api.Type{nat}, nat},
		{second, 2, false, []api.Type{first}, nat},
		{fun(nat, first), 1, false, []api.Type{nat, nat}, nat},
		{fun(nat, second), 2, false, []api.Type{nat, first}, nat},
		{fun(first, second), 2, false, []api.Type{first, first}, nat},
		{fun(second, unit), 3, false, []api.Type{second}, unit},
		{fun(second, first), 3, false, []api.Type{second, nat}, nat},
		{fun(list, fun(unit, pair(first, nat))), 1, false, []api.Type{list, unit}, pair(first, nat)},
		{pair(first, nat), 1, false, nil, pair(first, nat)},
		{pair(nat, second), 2, false, nil, pair(nat, second)},
		{pair(second, first), 2, false, nil, pair(second, first)},
		{fun(pair(nat, second), list), 3, false, []api.Type{pair(nat, second)}, list},
		{fun(pair(nat, nat), pair(nat, nat)), 1, false, []api.Type{pair(nat, nat)}, pair(nat, nat)},
		{right(api.TypeFun, 31, unit), 1, false, slices.Repeat([]api.Type{nat}, 31), unit},
		{left(api.TypeFun, 31, unit), 31, false, []api.Type{left(api.TypeFun, 30, unit)}, nat},
		{right(api.TypePair, 31, unit), 0, true, nil, right(api.TypePair, 31, unit)},
	} {
		what := strconv.Itoa(i)
		level, a := types.Level(q.t)
		data, b := types.Data(q.t)
		args, rest, c := types.Result(q.t)
		must(t, what+": errors", []api.Errno{a, b, c}, []api.Errno{api.OK, api.OK, api.OK})
		must(t, what+": Level", level, q.level)
		must(t, what+": Data", data, q.data)
		must(t, what+": arguments", args, q.args)
		must(t, what+": result", rest, q.rest)
	}
}

// P1.3: Function.
func TestFunction(t *testing.T) {
	bad, large := node(api.TypeNat, nat), right(api.TypeFun, 32, nat)
	for i, q := range []struct {
		l    []api.Type
		t    api.Type
		want api.Type
		err  api.Errno
	}{
		{nil, nat, nat, api.OK},
		{[]api.Type{}, fun(nat, list), fun(nat, list), api.OK},
		{nil, right(api.TypeFun, 31, nat), right(api.TypeFun, 31, nat), api.OK},
		{[]api.Type{nat}, list, fun(nat, list), api.OK},
		{[]api.Type{nat, list}, unit, fun(nat, fun(list, unit)), api.OK},
		{[]api.Type{fun(nat, list)}, unit, fun(fun(nat, list), unit), api.OK},
		{[]api.Type{nat}, fun(list, unit), fun(nat, fun(list, unit)), api.OK},
		{[]api.Type{pair(nat, list), unit}, pair(nat, nat), fun(pair(nat, list), fun(unit, pair(nat, nat))), api.OK},
		{slices.Repeat([]api.Type{nat}, 31), unit, right(api.TypeFun, 31, unit), api.OK},
		{slices.Repeat([]api.Type{nat}, 32), unit, api.Type{}, api.ErrSize},
		{slices.Repeat([]api.Type{nat}, 1<<16), unit, api.Type{}, api.ErrSize},
		{[]api.Type{right(api.TypePair, 30, nat)}, nat, fun(right(api.TypePair, 30, nat), nat), api.OK},
		{[]api.Type{right(api.TypePair, 31, nat)}, nat, api.Type{}, api.ErrSize},
		{[]api.Type{nat}, right(api.TypePair, 30, nat), fun(nat, right(api.TypePair, 30, nat)), api.OK},
		{[]api.Type{nat}, right(api.TypePair, 31, nat), api.Type{}, api.ErrSize},
		{nil, bad, api.Type{}, api.ErrForm},
		{nil, large, api.Type{}, api.ErrSize},
		{[]api.Type{nat}, bad, api.Type{}, api.ErrForm},
		{[]api.Type{nat, bad}, nat, api.Type{}, api.ErrForm},
		{[]api.Type{bad, large}, nat, api.Type{}, api.ErrForm},
		{[]api.Type{nat, large, bad}, nat, api.Type{}, api.ErrSize},
		{[]api.Type{large}, bad, api.Type{}, api.ErrSize},
		{[]api.Type{bad}, large, api.Type{}, api.ErrForm},
		// The result would be too large, but an argument, or t, is wrong: that is first.
		{append(slices.Repeat([]api.Type{nat}, 40), bad), nat, api.Type{}, api.ErrForm},
		{slices.Repeat([]api.Type{nat}, 40), bad, api.Type{}, api.ErrForm},
	} {
		got, err := types.Function(q.l, q.t)
		must(t, strconv.Itoa(i)+": error", err, q.err)
		must(t, strconv.Itoa(i), got, q.want)
	}
}

// P1.3: Context.
func TestContext(t *testing.T) {
	bad, large := node(api.TypeFun, nat), full(api.TypePair, 6)
	sixteen := slices.Repeat([]api.Type{nat}, api.MaxContext)
	for i, q := range []struct {
		l    []api.Type
		want api.Errno
	}{
		{nil, api.OK},
		{[]api.Type{}, api.OK},
		{[]api.Type{nat, list, unit, pair(nat, nat), fun(nat, nat)}, api.OK},
		{slices.Repeat([]api.Type{right(api.TypeFun, 31, nat)}, api.MaxContext), api.OK},
		{append(slices.Clone(sixteen), nat), api.ErrLimit},
		{make([]api.Type, 1<<16), api.ErrLimit},
		{append([]api.Type{bad}, sixteen...), api.ErrLimit},
		{append([]api.Type{large}, sixteen...), api.ErrLimit},
		{[]api.Type{{}}, api.ErrForm},
		{[]api.Type{large}, api.ErrSize},
		{[]api.Type{nat, bad, large}, api.ErrForm},
		{[]api.Type{nat, large, bad}, api.ErrSize},
		{append(slices.Clone(sixteen[1:]), bad), api.ErrForm},
		{append(slices.Clone(sixteen[1:]), large), api.ErrSize},
	} {
		must(t, strconv.Itoa(i), types.Context(q.l), q.want)
	}
}

// The chapter's consequences, of all types with few nodes.
func TestConsequences(t *testing.T) {
	l := append(all(7), right(api.TypeFun, 31, nat), left(api.TypeFun, 31, nat), full(api.TypeFun, 5), full(api.TypePair, 5))
	for i, x := range l {
		args, rest, a := types.Result(x)
		again, b := types.Function(args, rest)
		level, c := types.Level(x)
		data, d := types.Data(x)
		what := strconv.Itoa(i)
		must(t, what+": errors", []api.Errno{a, b, c, d}, []api.Errno{api.OK, api.OK, api.OK, api.OK})
		must(t, what+": Function of Result", types.Same(again, x), true)
		must(t, what+": Data and Level 0", data, level == 0)
	}
}

// The chapter's example.
func TestExample(t *testing.T) {
	numbers := fun(nat, nat)
	one, _ := types.Level(numbers)
	two, _ := types.Level(fun(numbers, nat))
	must(t, "levels", []int{one, two}, []int{1, 2})
}

// R2: arguments stay as they were, and so does what lies behind them in their memory.
func TestArgumentsStay(t *testing.T) {
	marked := func(l ...api.Type) []api.Type { return append(l, node(77))[:len(l)] }
	inner := api.Type{Kind: api.TypePair, Args: marked(nat, list)}
	x := api.Type{Kind: api.TypeFun, Args: marked(inner, fun(nat, unit))}
	context := marked(x, inner)
	was, wasList := deep(x), []api.Type{deep(x), deep(inner)}

	args, _, _ := types.Result(x)
	_ = append(args, node(78))
	types.Function(args, x)
	types.Function(context, x)
	types.Context(context)
	types.Same(x, inner)
	errorsOf(t, "x", x)

	must(t, "type", deep(x), was)
	must(t, "context", []api.Type{deep(context[0]), deep(context[1])}, wasList)
	for i, l := range [][]api.Type{inner.Args, x.Args, context} {
		must(t, "behind "+strconv.Itoa(i), l[:len(l)+1][len(l)], node(77))
	}
}
