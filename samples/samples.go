// Package samples makes types, terms, values, formulas and proofs, and trees that are none, for the tests of the layers. No layer uses it.
package samples

import (
	"slices"

	"proofprograms/api"
	"proofprograms/types"
)

// The types without parts.
var (
	Nat  = api.Type{Kind: api.TypeNat}
	List = api.Type{Kind: api.TypeList}
	Unit = api.Type{Kind: api.TypeUnit}
)

// The closed terms without parts.
var (
	Zero = api.Term{Kind: api.TermZero}
	None = api.Term{Kind: api.TermNil}
	Only = api.Term{Kind: api.TermUnit}
)

// Single is the value of the unit type.
var Single = api.Value{Kind: api.ValueUnit}

// Both returns the type of pairs of two types.
func Both(a, b api.Type) api.Type {
	return api.Type{Kind: api.TypePair, Args: []api.Type{a, b}}
}

// Fun returns the type of functions from a to b.
func Fun(a, b api.Type) api.Type {
	return api.Type{Kind: api.TypeFun, Args: []api.Type{a, b}}
}

// Wide returns a type with 2*n+1 nodes, if the last one is one node.
func Wide(n int, last api.Type) api.Type {
	for range n {
		last = Fun(Nat, last)
	}
	return last
}

// Node returns any tree without Index and Type, whether it is a term or not.
func Node(kind int, l ...api.Term) api.Term { return api.Term{Kind: kind, Args: l} }

// Typed returns any tree without Index, whether it is a term or not.
func Typed(kind int, s api.Type, l ...api.Term) api.Term {
	return api.Term{Kind: kind, Type: s, Args: l}
}

// Var returns a variable, also one with an Index that none has.
func Var(i int) api.Term { return api.Term{Kind: api.TermVar, Index: i} }

// Lam returns a function.
func Lam(s api.Type, b api.Term) api.Term { return Typed(api.TermLam, s, b) }

// App returns f applied to terms, one after the other.
func App(f api.Term, l ...api.Term) api.Term {
	for _, a := range l {
		f = Node(api.TermApp, f, a)
	}
	return f
}

// Succ returns the number after n.
func Succ(n api.Term) api.Term { return Node(api.TermSucc, n) }

// Cons returns a list.
func Cons(h, l api.Term) api.Term { return Node(api.TermCons, h, l) }

// Pair returns a pair.
func Pair(a, b api.Term) api.Term { return Node(api.TermPair, a, b) }

// Rec returns a recursion over a number; l are its three Args, or others.
func Rec(s api.Type, l ...api.Term) api.Term { return Typed(api.TermRec, s, l...) }

// Fold returns a recursion over a list; l are its three Args, or others.
func Fold(s api.Type, l ...api.Term) api.Term { return Typed(api.TermFold, s, l...) }

// Above returns n nodes TermSucc on a tree.
func Above(n int, t api.Term) api.Term {
	for range n {
		t = Succ(t)
	}
	return t
}

// Right returns n nodes TermPair, nested in their second Args.
func Right(n int, last api.Term) api.Term {
	for range n {
		last = Pair(Zero, last)
	}
	return last
}

// Left returns n nodes TermPair, nested in their first Args.
func Left(n int, last api.Term) api.Term {
	for range n {
		last = Pair(last, Zero)
	}
	return last
}

// Number returns the term of a number.
func Number(n int) api.Term { return Above(n, Zero) }

// Numbers returns the term of a list.
func Numbers(l ...int) api.Term {
	t := None
	for _, n := range slices.Backward(l) {
		t = Cons(Number(n), t)
	}
	return t
}

// Num returns a number as a value, also one that is none.
func Num(n int) api.Value { return api.Value{Kind: api.ValueNum, Num: n} }

// Nums returns a list as a value.
func Nums(l ...int) api.Value { return api.Value{Kind: api.ValueList, List: l} }

// Two returns a pair as a value.
func Two(a, b api.Value) api.Value {
	return api.Value{Kind: api.ValuePair, Args: []api.Value{a, b}}
}

// Full returns a tree of TermPair with 2^(depth+1) - 1 nodes.
func Full(depth int) api.Term {
	if depth == 0 {
		return Zero
	}
	return Pair(Full(depth-1), Full(depth-1))
}

// Small returns all valid terms with at most most nodes, with a few variables and types, and without TermRec and TermFold.
func Small(most int) []api.Term {
	some := []api.Type{Nat, List, Fun(Nat, Nat)}
	by := [][]api.Term{nil, {Var(0), Var(1), Var(2), Zero, None, Only}}
	all := slices.Clone(by[1])
	for n := 2; n <= most; n++ {
		var l []api.Term
		for _, a := range by[n-1] {
			l = append(l, Succ(a), Node(api.TermFst, a), Node(api.TermSnd, a))
			for _, s := range some {
				l = append(l, Lam(s, a))
			}
		}
		for i := 1; i < n-1; i++ {
			for _, a := range by[i] {
				for _, b := range by[n-1-i] {
					l = append(l, App(a, b), Pair(a, b), Cons(a, b))
				}
			}
		}
		by = append(by, l)
		all = append(all, l...)
	}
	return all
}

// Few returns all values whose terms have at most most nodes.
func Few(most int) []api.Value {
	lists := [][][]int{nil} // by the nodes of their terms
	by := [][]api.Value{nil}
	for n := 1; n <= most; n++ {
		var rows [][]int
		if n == 1 {
			rows = append(rows, nil)
		}
		for h := 0; h+3 <= n; h++ { // Cons, the number h, and a list
			for _, l := range lists[n-h-2] {
				rows = append(rows, append([]int{h}, l...))
			}
		}
		lists = append(lists, rows)
		l := []api.Value{Num(n - 1)}
		if n == 1 {
			l = append(l, Single)
		}
		for _, row := range rows {
			l = append(l, Nums(row...))
		}
		for i := 1; i < n-1; i++ {
			for _, a := range by[i] {
				for _, b := range by[n-1-i] {
					l = append(l, Two(a, b))
				}
			}
		}
		by = append(by, l)
	}
	return slices.Concat(by...)
}

// DeepType returns a copy that shares no memory.
func DeepType(t api.Type) api.Type {
	c := api.Type{Kind: t.Kind}
	for _, a := range t.Args {
		c.Args = append(c.Args, DeepType(a))
	}
	return c
}

// Deep returns a copy that shares no memory.
func Deep(t api.Term) api.Term {
	c := api.Term{Kind: t.Kind, Index: t.Index, Type: DeepType(t.Type)}
	for _, a := range t.Args {
		c.Args = append(c.Args, Deep(a))
	}
	return c
}

// DeepValue returns a copy that shares no memory.
func DeepValue(v api.Value) api.Value {
	c := api.Value{Kind: v.Kind, Num: v.Num, List: slices.Clone(v.List)}
	for _, a := range v.Args {
		c.Args = append(c.Args, DeepValue(a))
	}
	return c
}

// Choices hands out numbers, the same ones for the same start, by which larger terms are put together.
type Choices struct{ State uint64 }

// Below returns a number from 0 to n - 1.
func (c *Choices) Below(n int) int {
	c.State = c.State*6364136223846793005 + 1442695040888963407
	return int(c.State>>33) % n
}

// Mixed returns a valid term of all kinds, which mostly has no type, at most depth nodes above each other.
func (c *Choices) Mixed(depth int) api.Term {
	if depth <= 1 {
		return []api.Term{Var(0), Var(1), Var(2), Zero, None, Only}[c.Below(6)]
	}
	s, a, b := c.Simple(), c.Mixed(depth-1), c.Mixed(depth-1)
	switch c.Below(12) {
	case 0, 1:
		return Lam(s, a)
	case 2, 3:
		return App(Lam(s, a), b)
	case 4:
		return App(a, b)
	case 5:
		return Succ(a)
	case 6:
		return Cons(a, b)
	case 7:
		return Pair(a, b)
	case 8:
		return Node(api.TermFst, a)
	case 9:
		return Node(api.TermSnd, a)
	case 10:
		return Rec(s, a, b, c.Mixed(depth-1))
	}
	return Fold(s, a, b, c.Mixed(depth-1))
}

// Simple returns a small type.
func (c *Choices) Simple() api.Type {
	return []api.Type{Nat, List, Unit, Fun(Nat, Nat), Both(Nat, List), Fun(Fun(Nat, Nat), List)}[c.Below(6)]
}

// OfType returns a term of a type in a context, at most about depth nodes above each other.
func (c *Choices) OfType(context []api.Type, t api.Type, depth int) api.Term {
	if depth <= 1 {
		return c.leaf(context, t)
	}
	of := func(u api.Type) api.Term { return c.OfType(context, u, depth-1) }
	s := c.Simple()
	switch c.Below(9) {
	case 0, 1:
		return App(of(Fun(s, t)), of(s))
	case 2:
		return Node(api.TermFst, of(Both(t, s)))
	case 3:
		return Node(api.TermSnd, of(Both(s, t)))
	case 4:
		return Rec(t, of(t), of(Fun(Nat, Fun(t, t))), of(Nat))
	case 5:
		return Fold(t, of(t), of(Fun(Nat, Fun(List, Fun(t, t)))), of(List))
	}
	return c.made(context, t, depth)
}

// leaf returns a variable of a type, if there is one, or else a term without choices.
func (c *Choices) leaf(context []api.Type, t api.Type) api.Term {
	var l []api.Term
	for i, u := range context {
		if types.Same(t, u) {
			l = append(l, Var(len(context)-1-i))
		}
	}
	if len(l) > 0 {
		return l[c.Below(len(l))]
	}
	return c.made(context, t, 1)
}

// made returns a term of a type whose root makes what has this type.
func (c *Choices) made(context []api.Type, t api.Type, depth int) api.Term {
	of := func(u api.Type) api.Term { return c.OfType(context, u, depth-1) }
	switch {
	case t.Kind == api.TypePair:
		return Pair(of(t.Args[0]), of(t.Args[1]))
	case t.Kind == api.TypeFun:
		return Lam(t.Args[0], c.OfType(append(slices.Clone(context), t.Args[0]), t.Args[1], depth-1))
	case t.Kind == api.TypeNat && depth > 1:
		return Succ(of(Nat))
	case t.Kind == api.TypeNat:
		return Zero
	case t.Kind == api.TypeList && depth > 1:
		return Cons(of(Nat), of(List))
	case t.Kind == api.TypeList:
		return None
	}
	return Only
}

// Value returns a value of a type without functions, with numbers from 0 to most and at most as many elements in its lists.
func (c *Choices) Value(t api.Type, most int) api.Value {
	switch t.Kind {
	case api.TypeNat:
		return Num(c.Below(most + 1))
	case api.TypeList:
		l := make([]int, c.Below(most+1))
		for i := range l {
			l[i] = c.Below(most + 1)
		}
		return Nums(l...)
	case api.TypePair:
		return Two(c.Value(t.Args[0], most), c.Value(t.Args[1], most))
	}
	return Single
}
