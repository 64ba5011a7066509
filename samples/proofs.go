package samples

import (
	"slices"

	"proofprograms/api"
)

// Rule returns any tree that has Args alone, whether it is a proof or not.
func Rule(kind int, l ...api.Proof) api.Proof { return api.Proof{Kind: kind, Args: l} }

// With returns any tree with terms and formulas, whether it is a proof or not.
func With(kind int, s []api.Term, f []api.Formula, l ...api.Proof) api.Proof {
	return api.Proof{Kind: kind, Terms: s, Forms: f, Args: l}
}

// Hyp returns a hypothesis, also one with an Index that none has.
func Hyp(i int) api.Proof { return api.Proof{Kind: api.ProofHyp, Index: i} }

// Lemma returns a lemma, also one with an Index that none has.
func Lemma(i int) api.Proof { return api.Proof{Kind: api.ProofLemma, Index: i} }

// AndI returns a proof of both.
func AndI(p, q api.Proof) api.Proof { return Rule(api.ProofAndI, p, q) }

// ImpI returns a proof of an implication.
func ImpI(f api.Formula, p api.Proof) api.Proof {
	return With(api.ProofImpI, nil, []api.Formula{f}, p)
}

// Under returns a proof of a kind that has a type.
func Under(kind int, s api.Type, p api.Proof) api.Proof {
	return api.Proof{Kind: kind, Type: s, Args: []api.Proof{p}}
}

// At returns a proof of a kind that has a term.
func At(kind int, t api.Term, l ...api.Proof) api.Proof {
	return With(kind, []api.Term{t}, nil, l...)
}

// For returns a proof of a kind that has a formula and a term.
func For(kind int, f api.Formula, t api.Term, l ...api.Proof) api.Proof {
	return With(kind, []api.Term{t}, []api.Formula{f}, l...)
}

// Refl returns a proof that a number is itself.
func Refl(t api.Term) api.Proof { return At(api.ProofRefl, t) }

// Subst returns a proof of a formula at the right side of an equation.
func Subst(f api.Formula, p, q api.Proof) api.Proof {
	return With(api.ProofSubst, nil, []api.Formula{f}, p, q)
}

// AllIs returns n nodes AllI over numbers on a proof.
func AllIs(n int, p api.Proof) api.Proof {
	for range n {
		p = Under(api.ProofAllI, Nat, p)
	}
	return p
}

// FirstArgs returns n nodes AndI with Hyp 0, each as its second Arg, on a proof: 2*n nodes more.
func FirstArgs(n int, p api.Proof) api.Proof {
	for range n {
		p = AndI(p, Hyp(0))
	}
	return p
}

// LastArgs returns n nodes ImpE with Hyp 0, each as its first Arg, on a proof: 2*n nodes more.
func LastArgs(n int, p api.Proof) api.Proof {
	for range n {
		p = Rule(api.ProofImpE, Hyp(0), p)
	}
	return p
}

// FullProof returns a tree of AndI with 2^(depth+1) - 1 nodes.
func FullProof(depth int, leaf api.Proof) api.Proof {
	if depth == 0 {
		return leaf
	}
	return AndI(FullProof(depth-1, leaf), FullProof(depth-1, leaf))
}

// Proofs returns a proof of each kind, by its number, with a type, terms, formulas and Args that are handed out for it.
func Proofs(s api.Type, t func() api.Term, f func() api.Formula, p func() api.Proof) []api.Proof {
	return []api.Proof{
		{},
		Hyp(0), Lemma(0), AndI(p(), p()), Rule(api.ProofAndL, p()), Rule(api.ProofAndR, p()), ImpI(f(), p()), Rule(api.ProofImpE, p(), p()),
		Under(api.ProofAllI, s, p()), At(api.ProofAllE, t(), p()), For(api.ProofExI, f(), t(), p()), Rule(api.ProofExE, p(), p()),
		Under(api.ProofAllUI, s, p()), At(api.ProofAllUE, t(), p()), For(api.ProofExUI, f(), t(), p()), Rule(api.ProofExUE, p(), p()),
		For(api.ProofInd, f(), t(), p(), p()), For(api.ProofListInd, f(), t(), p(), p()), Refl(t()), Subst(f(), p(), p()), Rule(api.ProofChoice, p()),
	}
}

// Simplest returns a proof of each kind, by its number, without any part that could be left out.
func Simplest() []api.Proof {
	return Proofs(Nat, func() api.Term { return Zero }, Falsum, func() api.Proof { return Hyp(0) })
}

// Tree returns a valid proof of all kinds, which mostly proves nothing, at most depth nodes above each other and terms and formulas of a few more.
func (c *Choices) Tree(depth int) api.Proof {
	if depth <= 1 {
		return []api.Proof{Hyp(c.Below(4)), Lemma(c.Below(4)), Refl(c.Mixed(2))}[c.Below(3)]
	}
	t := func() api.Term { return c.Mixed(1 + c.Below(3)) }
	f := func() api.Formula { return c.Loose(1 + c.Below(2)) }
	// All the Args of all kinds would be far too many trees: one kind has them, the others are left.
	kind := api.ProofAndI + c.Below(api.ProofChoice-api.ProofAndI+1)
	p := Proofs(c.Simple(), t, f, func() api.Proof { return api.Proof{} })[kind]
	for i := range p.Args {
		p.Args[i] = c.Tree(depth - 1)
	}
	return p
}

// DeepProof returns a copy that shares no memory.
func DeepProof(p api.Proof) api.Proof {
	c := api.Proof{Kind: p.Kind, Index: p.Index, Type: DeepType(p.Type)}
	for _, t := range p.Terms {
		c.Terms = append(c.Terms, Deep(t))
	}
	for _, f := range p.Forms {
		c.Forms = append(c.Forms, DeepFormula(f))
	}
	for _, a := range p.Args {
		c.Args = append(c.Args, DeepProof(a))
	}
	return c
}

// WrongProofs returns trees whose root is no node of a proof, each one wrong in one way.
func WrongProofs() []api.Proof {
	const least, greatest = -1 << 63, 1<<63 - 1
	var l []api.Proof
	for _, kind := range []int{0, -1, 21, 22, 1 << 32, 1<<32 + api.ProofHyp, 1 << 62, greatest, least, -api.ProofHyp, -api.ProofAndI, -api.ProofRefl} {
		l = append(l, Rule(kind), Rule(kind, Hyp(0)), Rule(kind, Hyp(0), Hyp(0)), At(kind, Zero), Under(kind, Nat, Hyp(0)), api.Proof{Kind: kind, Index: 1})
	}
	for kind, right := range Simplest()[1:] {
		l = append(l, wrongNumbers(kind+1, right)...)
		l = append(l, wrongTypes(right)...)
		if len(right.Terms) > 0 {
			for _, t := range WrongTerms() {
				right.Terms = []api.Term{t}
				l = append(l, right)
			}
			right.Terms = []api.Term{Zero}
		}
		if len(right.Forms) > 0 {
			for _, f := range WrongFormulas() {
				right.Forms = []api.Formula{f}
				l = append(l, right)
			}
		}
	}
	return l
}

// wrongNumbers returns a proof with an Index that it may not have, and with too few or too many terms, formulas and Args.
func wrongNumbers(kind int, right api.Proof) []api.Proof {
	var l []api.Proof
	for _, i := range []int{-1, -1 << 63, 1, 1<<63 - 1} {
		if x := right; i < 0 || kind != api.ProofHyp && kind != api.ProofLemma {
			x.Index = i
			l = append(l, x)
		}
	}
	for _, n := range []int{0, 1, 2, 3, 1 << 12} {
		if x := right; n != len(right.Terms) {
			x.Terms = slices.Repeat([]api.Term{Zero}, n)
			l = append(l, x)
		}
		if x := right; n != len(right.Forms) {
			x.Forms = slices.Repeat([]api.Formula{Falsum()}, n)
			l = append(l, x)
		}
		if x := right; n != len(right.Args) {
			x.Args = slices.Repeat([]api.Proof{Hyp(0)}, n)
			l = append(l, x)
		}
	}
	return l
}

// wrongTypes returns a proof with types that it may not have.
func wrongTypes(right api.Proof) []api.Proof {
	var l []api.Proof
	some := []api.Type{{Kind: -1}, {Kind: 6}, {Kind: 1<<63 - 1}, {Args: []api.Type{Nat}}, {Args: []api.Type{{}}}, {Kind: api.TypeFun}, Fun(Nat, Both(api.Type{}, Nat)), Wide(32, Nat)}
	if right.Type.Kind != 0 {
		some = append(some, api.Type{})
	} else {
		some = append(some, Nat, Fun(Nat, Nat))
	}
	for _, s := range some {
		right.Type = s
		l = append(l, right)
	}
	return l
}

// LargeProofs returns proofs that have too many nodes, or too large terms or formulas, all of them as they should be.
func LargeProofs() map[string]api.Proof {
	return map[string]api.Proof{
		"one more AllI":                  AllIs(api.MaxProof, Hyp(0)),
		"one more in first Args":         FirstArgs(api.MaxProof/2, Hyp(0)),
		"one more in last Args":          LastArgs(api.MaxProof/2, Hyp(0)),
		"one more on all sides":          Rule(api.ProofAndL, Rule(api.ProofAndL, FullProof(13, Hyp(0)))),
		"one more in terms":              AndI(FullProof(1, Refl(Number(4095))), FullProof(1, Refl(Number(4092)))),
		"one more in formulas":           ImpI(Eq(Number(4093), Zero), ImpI(Eq(Number(4093), Zero), ImpI(Eq(Number(4093), Zero), ImpI(Eq(Number(4089), Zero), Hyp(0))))),
		"a term that is too large":       Refl(Number(4096)),
		"a formula that is too large":    ImpI(Eq(Number(4093), Number(1)), Hyp(0)),
		"a formula with too large terms": ImpI(Eq(Number(4096), Full(12)), Hyp(0)),
		"2^16 AllI":                      AllIs(1<<16, Hyp(0)),
		"2^16 levels in first Args":      FirstArgs(1<<16, Hyp(0)),
		"2^16 levels in last Args":       LastArgs(1<<16, Hyp(0)),
		"2^16 levels of a term":          Refl(Above(1<<16, Zero)),
		"2^16 levels of a formula":       ImpI(Alls(1<<16, Falsum()), Hyp(0)),
		"2^17 nodes on all sides":        FullProof(16, Hyp(0)),
	}
}
