package proof

import (
	"slices"

	"proofprograms/api"
)

// shape says what the nodes of a kind have, and what they bind.
type shape struct {
	indexed, typed     bool
	terms, forms, args int
	inForm             int // variables that are bound in the Form
	vars, hyps         int // variables and hypotheses that are bound in the last Arg
}

// shapes has, at the place of each kind, the shape of its nodes.
var shapes = [...]shape{
	api.ProofHyp:     {indexed: true},
	api.ProofLemma:   {indexed: true},
	api.ProofAndI:    {args: 2},
	api.ProofAndL:    {args: 1},
	api.ProofAndR:    {args: 1},
	api.ProofImpI:    {forms: 1, args: 1, hyps: 1},
	api.ProofImpE:    {args: 2},
	api.ProofAllI:    {typed: true, args: 1, vars: 1},
	api.ProofAllE:    {terms: 1, args: 1},
	api.ProofExI:     {terms: 1, forms: 1, args: 1},
	api.ProofExE:     {args: 2, vars: 1, hyps: 1},
	api.ProofAllUI:   {typed: true, args: 1, vars: 1},
	api.ProofAllUE:   {terms: 1, args: 1},
	api.ProofExUI:    {terms: 1, forms: 1, args: 1},
	api.ProofExUE:    {args: 2, vars: 1, hyps: 1},
	api.ProofInd:     {terms: 1, forms: 1, args: 2, inForm: 1, vars: 1, hyps: 1},
	api.ProofListInd: {terms: 1, forms: 1, args: 2, inForm: 1, vars: 2, hyps: 1},
	api.ProofRefl:    {terms: 1},
	api.ProofSubst:   {forms: 1, args: 2, inForm: 1},
	api.ProofChoice:  {args: 1},
}

// place says how many variables and how many hypotheses are bound above a part of a proof.
type place struct{ vars, hyps int }

// visitor has what is done at the parts of a proof; parts whose function is nil are passed by.
type visitor struct {
	variable func(index, depth int) // depth variables are bound above it
	hyp      func(index, depth int) // depth hypotheses are bound above it
	lemma    func(index int)
}

// proof visits the parts of a valid proof, which has so few nodes that calls within calls do no harm, here and below.
func (v visitor) proof(p api.Proof, at place) {
	switch {
	case p.Kind == api.ProofHyp && v.hyp != nil:
		v.hyp(p.Index, at.hyps)
	case p.Kind == api.ProofLemma && v.lemma != nil:
		v.lemma(p.Index)
	}
	if v.variable != nil {
		for _, t := range p.Terms {
			v.term(t, at.vars)
		}
		for _, f := range p.Forms {
			v.form(f, inForm(p, at))
		}
	}
	for i, a := range p.Args {
		v.proof(a, inArg(p, i, at))
	}
}

// form visits the variables of a valid formula.
func (v visitor) form(f api.Formula, depth int) {
	for _, t := range f.Terms {
		v.term(t, depth)
	}
	for _, a := range f.Args {
		v.form(a, inQuantifier(f, depth))
	}
}

// term visits the variables of a valid term.
func (v visitor) term(t api.Term, depth int) {
	if t.Kind == api.TermVar {
		v.variable(t.Index, depth)
	}
	for _, a := range t.Args {
		v.term(a, inLam(t, depth))
	}
}

// change has what comes in place of the parts of a proof; parts whose function is nil stay.
type change struct {
	variable func(v api.Term, depth int) api.Term // depth variables are bound above it
	hyp      func(h api.Proof, at place) api.Proof
}

// proof returns a valid proof with what comes in place of its parts.
func (c change) proof(p api.Proof, at place) api.Proof {
	if p.Kind == api.ProofHyp && c.hyp != nil {
		return c.hyp(p, at)
	}
	if c.variable != nil {
		p.Terms = slices.Clone(p.Terms)
		for i, t := range p.Terms {
			p.Terms[i] = c.term(t, at.vars)
		}
		p.Forms = slices.Clone(p.Forms)
		for i, f := range p.Forms {
			p.Forms[i] = c.form(f, inForm(p, at))
		}
	}
	p.Args = slices.Clone(p.Args)
	for i, a := range p.Args {
		p.Args[i] = c.proof(a, inArg(p, i, at))
	}
	return p
}

// form returns a valid formula with what comes in place of its variables.
func (c change) form(f api.Formula, depth int) api.Formula {
	f.Terms = slices.Clone(f.Terms)
	for i, t := range f.Terms {
		f.Terms[i] = c.term(t, depth)
	}
	f.Args = slices.Clone(f.Args)
	for i, a := range f.Args {
		f.Args[i] = c.form(a, inQuantifier(f, depth))
	}
	return f
}

// term returns a valid term with what comes in place of its variables.
// Package subst would refuse places below as many binders as a proof may have.
func (c change) term(t api.Term, depth int) api.Term {
	if t.Kind == api.TermVar {
		return c.variable(t, depth)
	}
	t.Args = slices.Clone(t.Args)
	for i, a := range t.Args {
		t.Args[i] = c.term(a, inLam(t, depth))
	}
	return t
}

// inArg returns the place of an Arg of a node that stands at a place.
func inArg(p api.Proof, i int, at place) place {
	if i == len(p.Args)-1 {
		at.vars += shapes[p.Kind].vars
		at.hyps += shapes[p.Kind].hyps
	}
	return at
}

// inForm returns how many variables are bound above the Form of a node that stands at a place.
func inForm(p api.Proof, at place) int { return at.vars + shapes[p.Kind].inForm }

// inQuantifier returns how many variables are bound above the Args of a formula that stands below depth of them.
func inQuantifier(f api.Formula, depth int) int {
	switch f.Kind {
	case api.FormAll, api.FormEx, api.FormAllU, api.FormExU:
		return depth + 1
	}
	return depth
}

// inLam returns how many variables are bound above the Args of a term that stands below depth of them.
func inLam(t api.Term, depth int) int {
	if t.Kind == api.TermLam {
		return depth + 1
	}
	return depth
}
