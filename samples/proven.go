package samples

import (
	"slices"

	"proofprograms/api"
	"proofprograms/formula"
	"proofprograms/kernel"
	"proofprograms/proof"
	"proofprograms/types"
)

// proving makes proofs that the kernel accepts: it puts them together by the rules, and keeps what the kernel does not refuse.
type proving struct {
	*Choices
	lemmas []api.Formula
	types  []api.Type
	hyps   []api.Formula
}

// Proven returns a proof that the kernel accepts in a sequent, of all kinds, at most about depth rules above each other, and its formula.
func (c *Choices) Proven(lemmas []api.Formula, s api.Sequent, depth int) (api.Proof, api.Formula) {
	return proving{c, lemmas, s.Types, s.Hyps}.some(depth)
}

// Sequent returns lemmas and a sequent in which many rules find what they ask for.
func (c *Choices) Sequent() ([]api.Formula, api.Sequent) {
	next := Eq(Var(0), Succ(Var(1)))
	lemmas := []api.Formula{All(Nat, Eq(Var(0), Var(0))), All(Nat, Ex(Nat, next)), Quant(api.FormAllU, Nat, Ex(List, Eq(Zero, Var(1))))}
	var s api.Sequent
	for range c.Below(4) {
		s.Types = append(s.Types, c.Simple())
	}
	s.Types = append(s.Types, Nat)
	for _, f := range []api.Formula{Quant(api.FormExU, Nat, Eq(Var(0), Var(1))), Eq(Var(0), Number(2)), And(Ex(Nat, next), Falsum()), Imp(Falsum(), Ex(Nat, next)), c.Formula(s.Types, 3)} {
		if c.Below(3) > 0 {
			s.Hyps = append(s.Hyps, f)
		}
	}
	return lemmas, s
}

// below returns what makes proofs below a variable.
func (g proving) below(s api.Type) proving {
	g.types = append(slices.Clone(g.types), s)
	g.hyps = slices.Clone(g.hyps)
	for i, h := range g.hyps {
		g.hyps[i], _ = formula.Lift(h, 0, 1)
	}
	return g
}

// knowing returns what makes proofs with one more hypothesis.
func (g proving) knowing(f api.Formula) proving {
	g.hyps = append(slices.Clone(g.hyps), f)
	return g
}

// infer returns the formula of a proof, if the kernel accepts it.
func (g proving) infer(p api.Proof) (api.Formula, bool) {
	got, err := kernel.Infer(g.lemmas, api.Sequent{Types: g.types, Hyps: g.hyps}, p)
	return got.Formula, err == api.OK
}

// term returns a term of a type.
func (g proving) term(s api.Type) api.Term { return g.OfType(g.types, s, 1+g.Below(3)) }

// some returns some proof, and its formula.
func (g proving) some(depth int) (api.Proof, api.Formula) {
	for depth > 1 {
		p := g.made(api.ProofAndI+g.Below(api.ProofChoice-api.ProofAndI+1), depth-1)
		if f, ok := g.infer(p); ok {
			return p, f
		}
		depth-- // a kind that asks for what is not there must not be tried for ever
	}
	p := []api.Proof{Hyp(g.Below(len(g.hyps) + 1)), Lemma(g.Below(len(g.lemmas) + 1)), Refl(g.term(Nat))}[g.Below(3)]
	f, ok := g.infer(p)
	if !ok {
		p = Refl(Zero)
		f, _ = g.infer(p)
	}
	return p, f
}

// shaped returns a proof of a formula of a kind; other is what makes one of any proof.
func (g proving) shaped(kind, depth int, other func() api.Proof) api.Proof {
	for range 3 {
		if p, f := g.some(depth); f.Kind == kind {
			return p
		}
	}
	return other()
}

// made returns a proof with a node of a kind at its root, which may be refused.
func (g proving) made(kind, depth int) api.Proof {
	switch kind {
	case api.ProofAndI:
		p, _ := g.some(depth)
		q, _ := g.some(depth)
		return AndI(p, q)
	case api.ProofAndL, api.ProofAndR:
		return Rule(kind, g.shaped(api.FormAnd, depth, func() api.Proof { return g.made(api.ProofAndI, depth-1) }))
	case api.ProofImpI:
		f := g.Formula(g.types, 1+g.Below(2))
		p, _ := g.knowing(f).some(depth)
		return ImpI(f, p)
	case api.ProofImpE:
		q, f := g.some(depth - 1)
		p, _ := g.knowing(f).some(depth - 1)
		return Rule(kind, ImpI(g.expanded(f), p), q)
	case api.ProofAllI, api.ProofAllUI:
		s := g.Simple()
		p, _ := g.below(s).some(depth)
		return Under(kind, s, p)
	case api.ProofAllE:
		return g.at(kind, g.shaped(api.FormAll, depth, func() api.Proof { return g.made(api.ProofAllI, depth-1) }))
	case api.ProofAllUE:
		return g.at(kind, g.shaped(api.FormAllU, depth, func() api.Proof { return g.made(api.ProofAllUI, depth-1) }))
	case api.ProofExI:
		return g.witnessed(kind, api.FormEx, depth)
	case api.ProofExUI:
		return g.witnessed(kind, api.FormExU, depth)
	case api.ProofExE:
		return g.opened(kind, api.FormEx, api.ProofExI, depth)
	case api.ProofExUE:
		return g.opened(kind, api.FormExU, api.ProofExUI, depth)
	case api.ProofInd:
		return g.induction(kind, Nat, Zero, Succ(Var(0)), 1, depth)
	case api.ProofListInd:
		return g.induction(kind, List, None, Cons(Var(1), Var(0)), 2, depth)
	case api.ProofSubst:
		return g.rewritten(depth)
	case api.ProofChoice:
		return Rule(kind, g.shaped(api.FormAll, depth, func() api.Proof {
			s := g.Simple()
			return Under(api.ProofAllI, s, g.below(s).made(api.ProofExI, depth-1))
		}))
	}
	return Refl(g.term(Nat))
}

// expanded returns a formula whose terms have, mostly, to be brought to normal form to be what they were.
func (g proving) expanded(f api.Formula) api.Formula {
	f.Terms = slices.Clone(f.Terms)
	for i, t := range f.Terms {
		if g.Below(2) == 0 {
			f.Terms[i] = App(Lam(Nat, Var(0)), t)
		}
	}
	f.Args = slices.Clone(f.Args)
	for i, a := range f.Args {
		f.Args[i] = g.expanded(a)
	}
	return f
}

// at returns a proof of a kind that puts a term of the right type in.
func (g proving) at(kind int, p api.Proof) api.Proof {
	f, _ := g.infer(p)
	return At(kind, g.term(f.Type), p)
}

// abstracted returns a formula with a new variable 0 in place of a variable, and the type of that one, or, if there is none, in no place.
func (g proving) abstracted(f api.Formula) (api.Formula, api.Type, api.Term) {
	if len(g.types) == 0 || g.Below(3) == 0 {
		s := g.Simple()
		f, _ = formula.Lift(f, 0, 1)
		return f, s, g.term(s)
	}
	i := g.Below(len(g.types))
	f = renamed(f, 0, func(j int) int {
		if j == i {
			return 0
		}
		return j + 1
	})
	return f, g.types[len(g.types)-1-i], Var(i)
}

// witnessed returns a proof by ExI or ExUI.
func (g proving) witnessed(kind, quantifier, depth int) api.Proof {
	p, f := g.some(depth)
	body, s, t := g.abstracted(f)
	return For(kind, Quant(quantifier, s, g.expanded(body)), t, p)
}

// opened returns a proof by ExE or ExUE.
func (g proving) opened(kind, quantifier, other, depth int) api.Proof {
	p := g.shaped(quantifier, depth, func() api.Proof { return g.made(other, depth-1) })
	f, ok := g.infer(p)
	if !ok {
		return p
	}
	q, d := g.below(f.Type).knowing(f.Args[0]).some(depth)
	if uses, _ := formula.Uses(d); slices.Contains(uses, 0) {
		// The variable may not be left over: it becomes a witness.
		d, _ = formula.Lift(d, 1, 1)
		q = For(other, Quant(quantifier, f.Type, d), Var(0), q)
	}
	return Rule(kind, p, q)
}

// induction returns a proof by Ind or ListInd of what can be proved for all anyway; it may use its hypothesis all the same.
func (g proving) induction(kind int, s api.Type, first, next api.Term, bound, depth int) api.Proof {
	r, f := g.below(s).some(depth)
	start, _ := proof.Put(r, 0, first)
	step, _ := proof.Lift(r, 1, bound)
	step, _ = proof.Put(step, 0, next)
	step, _ = proof.LiftHyps(step, 0, 1)
	if g.Below(2) == 0 {
		step = Rule(api.ProofAndR, AndI(Hyp(0), step))
	}
	return For(kind, g.expanded(f), g.term(s), start, step)
}

// rewritten returns a proof by Subst.
func (g proving) rewritten(depth int) api.Proof {
	q, f := g.some(depth)
	body, s, t := g.abstracted(f)
	if !types.Same(s, Nat) {
		body, _ = formula.Lift(f, 0, 1)
		t = g.term(Nat)
	}
	for i, h := range slices.Backward(g.hyps) {
		if h.Kind == api.FormEq && h.Terms[0].Kind == api.TermVar && t.Kind == api.TermVar && h.Terms[0].Index == t.Index {
			return Subst(body, Hyp(len(g.hyps)-1-i), q)
		}
	}
	return Subst(body, Refl(t), q)
}

// renamed returns a formula below depth quantifiers with other numbers for its free variables.
func renamed(f api.Formula, depth int, name func(i int) int) api.Formula {
	if slices.Contains(Quantifiers(), f.Kind) {
		depth++
	}
	f.Terms = slices.Clone(f.Terms)
	for i, t := range f.Terms {
		f.Terms[i] = renamedTerm(t, depth, name)
	}
	f.Args = slices.Clone(f.Args)
	for i, a := range f.Args {
		f.Args[i] = renamed(a, depth, name)
	}
	return f
}

// renamedTerm returns a term below depth functions of its own and quantifiers with other numbers for its free variables.
func renamedTerm(t api.Term, depth int, name func(i int) int) api.Term {
	if t.Kind == api.TermVar && t.Index >= depth {
		t.Index = name(t.Index-depth) + depth
	}
	if t.Kind == api.TermLam {
		depth++
	}
	t.Args = slices.Clone(t.Args)
	for i, a := range t.Args {
		t.Args[i] = renamedTerm(a, depth, name)
	}
	return t
}
