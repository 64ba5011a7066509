package samples

import (
	"slices"

	"proofprograms/api"
)

// Falsum returns the equation of 0 and 1.
func Falsum() api.Formula { return Eq(Zero, Number(1)) }

// Tree returns any tree, whether it is a formula or not.
func Tree(kind int, s api.Type, l []api.Term, args ...api.Formula) api.Formula {
	return api.Formula{Kind: kind, Type: s, Terms: l, Args: args}
}

// Eq returns an equation.
func Eq(a, b api.Term) api.Formula {
	return api.Formula{Kind: api.FormEq, Terms: []api.Term{a, b}}
}

// And returns the conjunction of two formulas.
func And(a, b api.Formula) api.Formula { return Tree(api.FormAnd, api.Type{}, nil, a, b) }

// Imp returns the implication of two formulas.
func Imp(a, b api.Formula) api.Formula { return Tree(api.FormImp, api.Type{}, nil, a, b) }

// Quant returns a quantifier of a kind.
func Quant(kind int, s api.Type, f api.Formula) api.Formula { return Tree(kind, s, nil, f) }

// All returns a formula for all things of a type.
func All(s api.Type, f api.Formula) api.Formula { return Quant(api.FormAll, s, f) }

// Ex returns a formula for some thing of a type.
func Ex(s api.Type, f api.Formula) api.Formula { return Quant(api.FormEx, s, f) }

// Alls returns a formula below n nodes FormAll over numbers.
func Alls(n int, f api.Formula) api.Formula {
	for range n {
		f = All(Nat, f)
	}
	return f
}

// Ands returns n nodes FormAnd with Falsum, each as its second Arg, above a formula: 5*n nodes more.
func Ands(n int, f api.Formula) api.Formula {
	for range n {
		f = And(f, Falsum())
	}
	return f
}

// Imps returns n nodes FormImp with Falsum, each as its first Arg, above a formula: 5*n nodes more.
func Imps(n int, f api.Formula) api.Formula {
	for range n {
		f = Imp(Falsum(), f)
	}
	return f
}

// Sub returns the difference of two numbers, as chapter 5 writes it.
func Sub() api.Term {
	pred := Lam(Nat, Rec(Nat, Zero, Lam(Nat, Lam(Nat, Var(1))), Var(0)))
	return Lam(Nat, Lam(Nat, Rec(Nat, Var(1), Lam(Nat, Lam(Nat, App(pred, Var(0)))), Var(0))))
}

// Less returns the equation that one number is less than another one: 21 nodes more than both.
func Less(s, t api.Term) api.Formula { return Eq(App(Sub(), Succ(s), t), Zero) }

// AllBelow returns a formula for all numbers below a term, which is given as it stands below the quantifier: 24 nodes more.
func AllBelow(t api.Term, f api.Formula) api.Formula { return All(Nat, Imp(Less(Var(0), t), f)) }

// ExBelow returns a formula for some number below a term, which is given as it stands below the quantifier: 24 nodes more.
func ExBelow(t api.Term, f api.Formula) api.Formula { return Ex(Nat, And(Less(Var(0), t), f)) }

// Nested returns n bounded quantifiers over no number, all of them All or all Ex, above a formula: 25*n nodes more.
func Nested(n int, every bool, f api.Formula) api.Formula {
	for range n {
		if every {
			f = AllBelow(Zero, f)
		} else {
			f = ExBelow(Zero, f)
		}
	}
	return f
}

// Up returns a term that stands below depth functions of its own with each free variable greater by one.
func Up(t api.Term, depth int) api.Term {
	if t.Kind == api.TermVar && t.Index >= depth {
		t.Index++
	}
	if t.Kind == api.TermLam {
		depth++
	}
	t.Args = slices.Clone(t.Args)
	for i, a := range t.Args {
		t.Args[i] = Up(a, depth)
	}
	return t
}

// FullFormula returns a tree of FormAnd with 5*2^depth - 1 nodes.
func FullFormula(depth int) api.Formula {
	if depth == 0 {
		return Falsum()
	}
	return And(FullFormula(depth-1), FullFormula(depth-1))
}

// Quantifiers returns the kinds of the quantifiers.
func Quantifiers() []int {
	return []int{api.FormAll, api.FormEx, api.FormAllU, api.FormExU}
}

// DeepFormula returns a copy that shares no memory.
func DeepFormula(f api.Formula) api.Formula {
	c := api.Formula{Kind: f.Kind, Type: DeepType(f.Type)}
	for _, t := range f.Terms {
		c.Terms = append(c.Terms, Deep(t))
	}
	for _, a := range f.Args {
		c.Args = append(c.Args, DeepFormula(a))
	}
	return c
}

// WrongFormulas returns trees whose root is no node of a formula, each one wrong in one way.
func WrongFormulas() []api.Formula {
	const least, greatest = -1 << 63, 1<<63 - 1
	var none api.Type
	two := []api.Term{Zero, Zero}
	var l []api.Formula
	for _, kind := range []int{0, -1, 8, 1 << 32, 1<<32 + api.FormEq, 1 << 62, greatest, least, -api.FormEq, -api.FormAnd, -api.FormAll} {
		l = append(l, Tree(kind, none, nil), Tree(kind, none, two), Tree(kind, none, nil, Falsum(), Falsum()), Tree(kind, Nat, nil, Falsum()))
	}
	for _, n := range []int{0, 1, 3, 4, 1 << 16} {
		l = append(l, Tree(api.FormEq, none, slices.Repeat([]api.Term{Zero}, n)))
	}
	for _, t := range WrongTerms() {
		l = append(l, Eq(t, Zero), Eq(Zero, t), Eq(Succ(t), Zero))
	}
	l = append(l, Tree(api.FormEq, none, two, Falsum()), Tree(api.FormEq, none, two, Falsum(), Falsum()))
	for _, kind := range []int{api.FormAnd, api.FormImp} {
		for _, n := range []int{0, 1, 3, 4, 1 << 16} {
			l = append(l, Tree(kind, none, nil, slices.Repeat([]api.Formula{Falsum()}, n)...))
		}
		l = append(l, Tree(kind, none, two[:1], Falsum(), Falsum()), Tree(kind, none, two, Falsum(), Falsum()))
	}
	for _, s := range []api.Type{Nat, {Kind: -1}, {Kind: greatest}, {Args: []api.Type{Nat}}, {Args: []api.Type{{}}}, Fun(Nat, Nat)} {
		l = append(l, Tree(api.FormEq, s, two), Tree(api.FormAnd, s, nil, Falsum(), Falsum()), Tree(api.FormImp, s, nil, Falsum(), Falsum()))
	}
	for _, kind := range Quantifiers() {
		for _, s := range []api.Type{none, {Kind: -1}, {Kind: 6}, {Kind: least}, {Args: []api.Type{Nat}}, {Kind: api.TypeFun}, {Kind: api.TypeNat, Args: []api.Type{Nat}}, Fun(Nat, Both(none, Nat)), Wide(32, Nat)} {
			l = append(l, Quant(kind, s, Falsum()))
		}
		for _, n := range []int{0, 2, 3, 1 << 16} {
			l = append(l, Tree(kind, Nat, nil, slices.Repeat([]api.Formula{Falsum()}, n)...))
		}
		l = append(l, Tree(kind, Nat, two[:1], Falsum()), Tree(kind, Nat, two, Falsum()))
	}
	return l
}

// Formula returns a formula that is typed in a context, at most depth nodes above each other and terms of about as many more.
func (c *Choices) Formula(context []api.Type, depth int) api.Formula {
	return c.formula(context, depth, func(context []api.Type) api.Term { return c.OfType(context, Nat, 1+c.Below(3)) })
}

// Loose returns a valid formula, which mostly is not typed in any context, at most depth nodes above each other.
func (c *Choices) Loose(depth int) api.Formula {
	return c.formula(nil, depth, func([]api.Type) api.Term { return c.Mixed(1 + c.Below(3)) })
}

// Decidable returns a decidable formula that is typed in a context, at most depth nodes above each other and terms and limits of about as many more.
func (c *Choices) Decidable(context []api.Type, depth int) api.Formula {
	side := func() api.Term { return c.OfType(context, Nat, 1+c.Below(3)) }
	part := func() api.Formula { return c.Decidable(context, depth-1) }
	choice := c.Below(6)
	switch {
	case depth <= 1 || choice == 0:
		return Eq(side(), side())
	case choice == 1:
		return And(part(), part())
	case choice <= 3:
		return Imp(part(), part())
	}
	limit := Up(side(), 0)
	body := c.Decidable(append(slices.Clone(context), Nat), depth-1)
	if choice == 4 {
		return AllBelow(limit, body)
	}
	return ExBelow(limit, body)
}

// formula returns a formula with sides of equations that a function makes in their context.
func (c *Choices) formula(context []api.Type, depth int, side func(context []api.Type) api.Term) api.Formula {
	if depth <= 1 {
		return Eq(side(context), side(context))
	}
	switch c.Below(7) {
	case 0:
		return Eq(side(context), side(context))
	case 1:
		return And(c.formula(context, depth-1, side), c.formula(context, depth-1, side))
	case 2, 3:
		return Imp(c.formula(context, depth-1, side), c.formula(context, depth-1, side))
	}
	s := c.Simple()
	return Quant(Quantifiers()[c.Below(4)], s, c.formula(append(slices.Clone(context), s), depth-1, side))
}
