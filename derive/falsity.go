package derive

import (
	"slices"

	"proofprograms/api"
	"proofprograms/formula"
	"proofprograms/terms"
)

// exFalso returns a proof of f from one of False.
// With 0 = 1, a formula in which numbers are shut off at 0 and let through at 1 leads from one that is proved without any hypothesis to f.
// The steps to f may be too many, or the formula too large; then all numbers are 0 first, which is not done at once because there may be no room for one more variable and hypothesis.
func (d *draft) exFalso(f api.Formula, p api.Proof) api.Proof {
	no := d.exact(formula.False(), p)
	shut := replaced(f, 0, func(api.Formula, int) api.Formula { return equal(zero(), zero()) })
	gated := replaced(d.formula(f, 0, 1), 0, func(e api.Formula, depth int) api.Formula {
		return equal(gate(variable(depth), e.Terms[0]), gate(variable(depth), e.Terms[1]))
	})
	open, err := formula.Put(gated, 0, one())
	if err == api.OK && formula.Match(open, f) == api.OK {
		return d.exact(f, rewrite(gated, no, d.introduced(shut, 0, func(api.Formula, int) api.Proof { return refl(zero()) })))
	}
	return d.fromZeros(f, no)
}

// fromZeros returns a proof of f from one of just False, by the way of all numbers being 0.
func (d *draft) fromZeros(f api.Formula, no api.Proof) api.Proof {
	zeros := every(equal(zero(), variable(0)))
	known := rewrite(every(equal(zero(), gate(variable(1), variable(0)))), no, under(api.ProofAllI, nat(), refl(zero())))
	return impE(impI(zeros, d.introduced(f, 0, func(e api.Formula, hyps int) api.Proof {
		s, t := e.Terms[0], e.Terms[1]
		return rewrite(equal(variable(0), d.term(t)), at(s, hyp(hyps)), at(t, hyp(hyps)))
	})), known)
}

// gate returns what is 0 if x is 0, and t if x is 1. It takes t as an argument, so that no step doubles t.
func gate(x, t api.Term) api.Term {
	s := api.Type{Kind: api.TypeFun, Args: []api.Type{nat(), nat()}}
	return apply(choice(s, x, lam(nat(), zero()), lam(nat(), variable(0))), t)
}

// replaced returns a formula, below depth quantifiers, with others for those equations that are left to be proved when everything else is introduced.
func replaced(f api.Formula, depth int, other func(e api.Formula, depth int) api.Formula) api.Formula {
	first := 0
	switch f.Kind {
	case api.FormEq:
		return other(f, depth)
	case api.FormAll, api.FormEx, api.FormAllU, api.FormExU:
		depth++
	case api.FormImp:
		first = 1
	}
	f.Args = slices.Clone(f.Args)
	for i := first; i < len(f.Args); i++ {
		f.Args[i] = replaced(f.Args[i], depth, other)
	}
	return f
}

// introduced returns a proof of f by the rules that introduce what f is made of; equation proves the equations that are left, with so many hypotheses more. The proof uses no variables.
func (d *draft) introduced(f api.Formula, hyps int, equation func(e api.Formula, hyps int) api.Proof) api.Proof {
	if d.err != api.OK {
		return api.Proof{}
	}
	switch f.Kind {
	case api.FormAnd:
		return rule(api.ProofAndI, d.introduced(f.Args[0], hyps, equation), d.introduced(f.Args[1], hyps, equation))
	case api.FormImp:
		return impI(f.Args[0], d.introduced(f.Args[1], hyps+1, equation))
	case api.FormAll:
		return under(api.ProofAllI, f.Type, d.introduced(f.Args[0], hyps, equation))
	case api.FormAllU:
		return under(api.ProofAllUI, f.Type, d.introduced(f.Args[0], hyps, equation))
	case api.FormEx:
		t, body := d.witnessed(f)
		return with(api.ProofExI, f, t, d.introduced(body, hyps, equation))
	case api.FormExU:
		t, body := d.witnessed(f)
		return with(api.ProofExUI, f, t, d.introduced(body, hyps, equation))
	}
	return equation(f, hyps)
}

// witnessed returns a closed term for a formula that something exists, and the formula with it.
// The proof has each of the formulas that stand inside each other, which may be far more than a proof can have: it ends as soon as they are too large.
func (d *draft) witnessed(f api.Formula) (api.Term, api.Formula) {
	size, err := formula.Size(f)
	d.note(err)
	if d.nodes += size; d.nodes > api.MaxProof {
		d.note(api.ErrSize)
		return api.Term{}, api.Formula{}
	}
	t, err := terms.Default(f.Type)
	d.note(err)
	return t, d.put(f.Args[0], t)
}
