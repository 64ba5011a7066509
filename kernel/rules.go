package kernel

import (
	"proofprograms/api"
	"proofprograms/formula"
	"proofprograms/terms"
	"proofprograms/types"
)

// rule returns what a proof of one kind proves at a place. Its errors are those that chapter 11 names for that kind, but for ErrSize of the formula.
type rule func(g place, p api.Proof) (result, api.Errno)

// rules returns the rule of each kind.
func rules() map[int]rule {
	return map[int]rule{
		api.ProofHyp:     place.hyp,
		api.ProofLemma:   place.lemma,
		api.ProofAndI:    place.andI,
		api.ProofAndL:    place.andL,
		api.ProofAndR:    place.andR,
		api.ProofImpI:    place.impI,
		api.ProofImpE:    place.impE,
		api.ProofAllI:    place.allI,
		api.ProofAllE:    place.allE,
		api.ProofExI:     place.exI,
		api.ProofExE:     place.exE,
		api.ProofAllUI:   place.allUI,
		api.ProofAllUE:   place.allUE,
		api.ProofExUI:    place.exUI,
		api.ProofExUE:    place.exUE,
		api.ProofInd:     place.ind,
		api.ProofListInd: place.listInd,
		api.ProofRefl:    place.refl,
		api.ProofSubst:   place.subst,
		api.ProofChoice:  place.choice,
	}
}

func (g place) hyp(p api.Proof) (result, api.Errno) {
	if p.Index >= len(g.known) {
		return result{}, api.ErrHyp
	}
	f, err := g.known[len(g.known)-1-p.Index].at(len(g.context))
	return result{formula: f}, err
}

func (g place) lemma(p api.Proof) (result, api.Errno) {
	if p.Index >= len(g.lemmas) {
		return result{}, api.ErrLemma
	}
	return result{formula: g.lemmas[p.Index]}, api.OK
}

func (g place) andI(p api.Proof) (result, api.Errno) {
	a, err := g.infer(p.Args[0])
	if err != api.OK {
		return result{}, err
	}
	b, err := g.infer(p.Args[1])
	if err != api.OK {
		return result{}, err
	}
	return result{two(api.FormAnd, a.formula, b.formula), a.uses | b.uses}, api.OK
}

func (g place) andL(p api.Proof) (result, api.Errno) { return g.half(p, 0) }

func (g place) andR(p api.Proof) (result, api.Errno) { return g.half(p, 1) }

// half is the rule of one part of a conjunction.
func (g place) half(p api.Proof, part int) (result, api.Errno) {
	both, err := g.shaped(p.Args[0], api.FormAnd)
	if err != api.OK {
		return result{}, err
	}
	return result{both.formula.Args[part], both.uses}, api.OK
}

func (g place) impI(p api.Proof) (result, api.Errno) {
	premise := p.Forms[0]
	if err := formula.Typed(g.context, premise); err != api.OK {
		return result{}, err
	}
	inner, err := g.below(nil, premise)
	if err != api.OK {
		return result{}, err
	}
	part, err := inner.infer(p.Args[0])
	if err != api.OK {
		return result{}, err
	}
	return result{two(api.FormImp, premise, part.formula), part.uses}, api.OK
}

func (g place) impE(p api.Proof) (result, api.Errno) {
	imp, err := g.shaped(p.Args[0], api.FormImp)
	if err != api.OK {
		return result{}, err
	}
	premise, err := g.infer(p.Args[1])
	if err != api.OK {
		return result{}, err
	}
	if err := formula.Match(imp.formula.Args[0], premise.formula); err != api.OK {
		return result{}, err
	}
	return result{imp.formula.Args[1], imp.uses | premise.uses}, api.OK
}

func (g place) allI(p api.Proof) (result, api.Errno) {
	part, err := g.variable(p)
	if err != api.OK {
		return result{}, err
	}
	return result{quantified(api.FormAll, p.Type, part.formula), part.uses.outside(1)}, api.OK
}

func (g place) allUI(p api.Proof) (result, api.Errno) {
	part, err := g.variable(p)
	if err != api.OK {
		return result{}, err
	}
	if part.uses.has(0) {
		return result{}, api.ErrUse
	}
	return result{quantified(api.FormAllU, p.Type, part.formula), part.uses.outside(1)}, api.OK
}

// variable returns what the part of AllI or AllUI proves below its variable.
func (g place) variable(p api.Proof) (result, api.Errno) {
	inner, err := g.below([]api.Type{p.Type})
	if err != api.OK {
		return result{}, err
	}
	return inner.infer(p.Args[0])
}

func (g place) allE(p api.Proof) (result, api.Errno) {
	got, err := g.instance(p, api.FormAll)
	if err != api.OK {
		return result{}, err
	}
	return result{got.formula, got.uses | free(p.Terms[0])}, api.OK
}

func (g place) allUE(p api.Proof) (result, api.Errno) { return g.instance(p, api.FormAllU) }

// instance returns the formula of AllE or AllUE, and the uses of its part.
func (g place) instance(p api.Proof, kind int) (result, api.Errno) {
	t := p.Terms[0]
	s, err := terms.TypeOf(g.context, t)
	if err != api.OK {
		return result{}, err
	}
	all, err := g.shaped(p.Args[0], kind)
	if err != api.OK {
		return result{}, err
	}
	if !types.Same(all.formula.Type, s) {
		return result{}, api.ErrType
	}
	f, err := formula.Put(all.formula.Args[0], 0, t)
	return result{f, all.uses}, err
}

func (g place) exI(p api.Proof) (result, api.Errno) {
	got, err := g.witnessed(p, api.FormEx)
	if err != api.OK {
		return result{}, err
	}
	return result{got.formula, got.uses | free(p.Terms[0])}, api.OK
}

func (g place) exUI(p api.Proof) (result, api.Errno) { return g.witnessed(p, api.FormExU) }

// witnessed returns the formula of ExI or ExUI, and the uses of its part.
func (g place) witnessed(p api.Proof, kind int) (result, api.Errno) {
	some, t := p.Forms[0], p.Terms[0]
	if err := formula.Typed(g.context, some); err != api.OK {
		return result{}, err
	}
	if some.Kind != kind {
		return result{}, api.ErrShape
	}
	if err := g.fits(t, some.Type); err != api.OK {
		return result{}, err
	}
	part, err := g.matching(p.Args[0], some.Args[0], t)
	return result{some, part.uses}, err
}

func (g place) exE(p api.Proof) (result, api.Errno) { return g.opened(p, api.FormEx) }

func (g place) exUE(p api.Proof) (result, api.Errno) { return g.opened(p, api.FormExU) }

// opened is the rule of ExE and ExUE.
func (g place) opened(p api.Proof, kind int) (result, api.Errno) {
	some, err := g.shaped(p.Args[0], kind)
	if err != api.OK {
		return result{}, err
	}
	inner, err := g.below([]api.Type{some.formula.Type}, some.formula.Args[0])
	if err != api.OK {
		return result{}, err
	}
	part, err := inner.infer(p.Args[1])
	if err != api.OK {
		return result{}, err
	}
	f, err := independent(part.formula)
	if err != api.OK {
		return result{}, err
	}
	if kind == api.FormExU && part.uses.has(0) {
		return result{}, api.ErrUse
	}
	f, err = formula.Lower(f, 0)
	return result{f, some.uses | part.uses.outside(1)}, err
}

func (g place) ind(p api.Proof) (result, api.Errno) {
	next := api.Term{Kind: api.TermSucc, Args: []api.Term{{Kind: api.TermVar}}}
	return g.induction(p, api.Term{Kind: api.TermZero}, next, nat())
}

func (g place) listInd(p api.Proof) (result, api.Errno) {
	next := api.Term{Kind: api.TermCons, Args: []api.Term{{Kind: api.TermVar, Index: 1}, {Kind: api.TermVar}}}
	return g.induction(p, api.Term{Kind: api.TermNil}, next, nat(), api.Type{Kind: api.TypeList})
}

// induction is the rule of Ind and ListInd: from the formula at first, and from that at the last one of the bound variables to that at next.
func (g place) induction(p api.Proof, first, next api.Term, bound ...api.Type) (result, api.Errno) {
	f, t, n := p.Forms[0], p.Terms[0], len(bound)
	if err := g.typedBehind(f, first); err != api.OK {
		return result{}, err
	}
	if err := g.fits(t, bound[n-1]); err != api.OK {
		return result{}, err
	}
	start, err := g.matching(p.Args[0], f, first)
	if err != api.OK {
		return result{}, err
	}
	// The variable of f is the last bound one; it is bound anew where next is put in its place.
	assumed, err := formula.Lift(f, 1, n-1)
	if err != api.OK {
		return result{}, err
	}
	aim, err := formula.Lift(f, 1, n)
	if err != api.OK {
		return result{}, err
	}
	inner, err := g.below(bound, assumed)
	if err != api.OK {
		return result{}, err
	}
	step, err := inner.matching(p.Args[1], aim, next)
	if err != api.OK {
		return result{}, err
	}
	f, err = formula.Put(f, 0, t)
	return result{f, free(t) | start.uses | step.uses.outside(n)}, err
}

func (g place) refl(p api.Proof) (result, api.Errno) {
	t := p.Terms[0]
	if err := g.fits(t, nat()); err != api.OK {
		return result{}, err
	}
	return result{formula: api.Formula{Kind: api.FormEq, Terms: []api.Term{t, t}}}, api.OK
}

func (g place) subst(p api.Proof) (result, api.Errno) {
	f := p.Forms[0]
	if err := g.typedBehind(f, api.Term{Kind: api.TermZero}); err != api.OK {
		return result{}, err
	}
	equation, err := g.shaped(p.Args[0], api.FormEq)
	if err != api.OK {
		return result{}, err
	}
	sides := equation.formula.Terms
	at, err := g.matching(p.Args[1], f, sides[0])
	if err != api.OK {
		return result{}, err
	}
	f, err = formula.Put(f, 0, sides[1])
	return result{f, at.uses}, err
}

func (g place) choice(p api.Proof) (result, api.Errno) {
	all, err := g.shaped(p.Args[0], api.FormAll)
	if err != api.OK {
		return result{}, err
	}
	some := all.formula.Args[0]
	if some.Kind != api.FormEx {
		return result{}, api.ErrShape
	}
	s, err := types.Function([]api.Type{all.formula.Type}, some.Type)
	if err != api.OK {
		return result{}, err
	}
	// Between the argument and what is found for it, the function becomes a variable, and what is found is its value.
	f, err := formula.Lift(some.Args[0], 2, 1)
	if err != api.OK {
		return result{}, err
	}
	applied := api.Term{Kind: api.TermApp, Args: []api.Term{{Kind: api.TermVar, Index: 1}, {Kind: api.TermVar}}}
	f, err = formula.Put(f, 0, applied)
	return result{quantified(api.FormEx, s, quantified(api.FormAll, all.formula.Type, f)), all.uses}, err
}

// two returns a formula of a kind that has two Args.
func two(kind int, a, b api.Formula) api.Formula {
	return api.Formula{Kind: kind, Args: []api.Formula{a, b}}
}

// quantified returns a formula with a quantifier of a kind.
func quantified(kind int, s api.Type, f api.Formula) api.Formula {
	return api.Formula{Kind: kind, Type: s, Args: []api.Formula{f}}
}

// nat returns the type of numbers.
func nat() api.Type { return api.Type{Kind: api.TypeNat} }
