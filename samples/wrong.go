package samples

import (
	"slices"

	"proofprograms/api"
)

// Plain returns any tree, whether it is a value or not.
func Plain(kind, n int, l []int, args ...api.Value) api.Value {
	return api.Value{Kind: kind, Num: n, List: l, Args: args}
}

// WrongTerms returns trees whose root is no node of a term, each one wrong in one way.
func WrongTerms() []api.Term {
	l := []api.Term{
		{}, Node(-1), Node(14), Node(1 << 62), Node(-1 << 63), Node(-api.TermSucc, Zero), Node(0, Zero), Node(14, Zero, Zero),
		Var(-1), Var(-1 << 63),
		Lam(Wide(32, Nat), Var(0)), Lam(api.Type{}, Var(0)), Lam(api.Type{Kind: 6}, Var(0)), Lam(api.Type{Kind: api.TypeFun}, Var(0)), Lam(Fun(Nat, Both(api.Type{}, Nat)), Var(0)),
		Rec(Wide(32, Nat), Var(0), Var(0), Var(0)), Rec(api.Type{}, Var(0), Var(0), Var(0)), Rec(api.Type{Kind: -1}, Var(0), Var(0), Var(0)),
		Fold(Wide(32, Nat), Var(0), Var(0), Var(0)), Fold(api.Type{}, Var(0), Var(0), Var(0)), Fold(Both(Nat, api.Type{Kind: 9}), Var(0), Var(0), Var(0)),
		Node(api.TermPair, slices.Repeat([]api.Term{Zero}, 1<<16)...), Node(99, slices.Repeat([]api.Term{Zero}, 1<<16)...),
	}
	for _, q := range [][2]int{
		{api.TermVar, 0}, {api.TermLam, 1}, {api.TermApp, 2}, {api.TermZero, 0}, {api.TermSucc, 1}, {api.TermRec, 3}, {api.TermNil, 0},
		{api.TermCons, 2}, {api.TermFold, 3}, {api.TermPair, 2}, {api.TermFst, 1}, {api.TermSnd, 1}, {api.TermUnit, 0},
	} {
		kind, n := q[0], q[1]
		right := Typed(kind, api.Type{}, slices.Repeat([]api.Term{Zero}, n)...)
		bears := kind == api.TermLam || kind == api.TermRec || kind == api.TermFold
		if bears {
			right.Type = Nat
		}
		for other := range 5 {
			if x := right; other != n {
				x.Args = slices.Repeat([]api.Term{Zero}, other)
				l = append(l, x)
			}
		}
		x := right
		if kind != api.TermVar {
			x.Index = 1
			l = append(l, x)
		}
		x.Index = -1
		l = append(l, x)
		if x = right; !bears {
			for _, s := range []api.Type{Nat, {Kind: -1}, {Args: []api.Type{Nat}}, Fun(Nat, Nat)} {
				x.Type = s
				l = append(l, x)
			}
		}
	}
	return l
}

// WrongValues returns trees whose root is no node of a value, each one wrong in one way.
func WrongValues() []api.Value {
	const least, greatest = -1 << 63, 1<<63 - 1
	behind := append(slices.Repeat([]int{1}, 1000), -1)
	many := slices.Repeat([]api.Value{Num(0)}, 1<<16)
	l := []api.Value{
		{}, Plain(-1, 0, nil), Plain(5, 0, nil), Plain(api.CellFun, 0, nil), Plain(least, 0, nil), Plain(greatest, 0, nil), Plain(1<<32+api.ValueNum, 0, nil),
		Plain(0, 1, nil), Plain(0, 0, []int{1}), Plain(0, 0, nil, Single, Single), Plain(-api.ValuePair, 0, nil, Single, Single), Plain(5, 0, nil, many...),
		Num(-1), Num(least), Plain(api.ValueNum, 1, []int{0}), Plain(api.ValueNum, 0, []int{1, 2}), Plain(api.ValueNum, 0, nil, Num(0)), Plain(api.ValueNum, 0, nil, Single, Single),
		Nums(-1), Nums(least), Nums(-1, 0), Nums(0, -1), Nums(0, -1, 0), Nums(behind...),
		Plain(api.ValueList, 1, nil), Plain(api.ValueList, -1, nil), Plain(api.ValueList, 1, []int{1}), Plain(api.ValueList, 0, nil, Num(0)), Plain(api.ValueList, 0, []int{1}, Num(0), Num(0)),
		Plain(api.ValueUnit, 1, nil), Plain(api.ValueUnit, -1, nil), Plain(api.ValueUnit, 0, []int{0}), Plain(api.ValueUnit, 0, nil, Single), Plain(api.ValueUnit, 0, nil, Single, Single),
		Plain(api.ValuePair, 1, nil, Single, Single), Plain(api.ValuePair, -1, nil, Single, Single), Plain(api.ValuePair, 0, []int{0}, Single, Single),
		Plain(api.ValuePair, 0, nil, many...),
	}
	for _, n := range []int{0, 1, 3, 4} {
		l = append(l, Plain(api.ValuePair, 0, nil, many[:n]...))
	}
	return l
}

// LargeFormulas returns formulas that have too many nodes, all of them as they should be.
func LargeFormulas() map[string]api.Formula {
	return map[string]api.Formula{
		"one more in a term":           Eq(Number(4094), Zero),
		"a term that is too large":     Eq(Number(4096), Zero),
		"both terms too large":         Eq(Full(12), Full(12)),
		"one more quantifier":          Alls(4093, Falsum()),
		"one more in first Args":       Ands(818, Eq(Zero, Number(4))),
		"one more in last Args":        Imps(818, Eq(Zero, Number(4))),
		"one more below all":           Nested(163, true, Eq(Number(19), Zero)),
		"one more below some":          Nested(163, false, Eq(Number(19), Zero)),
		"one more in a limit":          AllBelow(Number(4068), Falsum()),
		"a limit that is too large":    ExBelow(Number(4096), Falsum()),
		"one more in a task":           Alls(4091, Ex(Nat, Eq(Zero, Number(2)))),
		"5119 nodes":                   FullFormula(10),
		"2^16 quantifiers":             Alls(1<<16, Falsum()),
		"2^16 levels in first Args":    Ands(1<<16, Falsum()),
		"2^16 levels in last Args":     Imps(1<<16, Falsum()),
		"2^16 levels of a limit":       AllBelow(Above(1<<16, Zero), Falsum()),
		"many levels of limits":        Nested(3000, true, Falsum()),
		"2^16 levels in front of a Ex": Alls(1<<16, Ex(Nat, Falsum())),
	}
}
