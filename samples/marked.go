package samples

import (
	"slices"

	"proofprograms/api"
	"proofprograms/terms"
	"proofprograms/types"
)

// What stands behind the ends of marked slices: no valid nodes.
var (
	typeMark    = api.Type{Kind: 77}
	termMark    = api.Term{Kind: 77}
	formulaMark = api.Formula{Kind: 77}
	proofMark   = api.Proof{Kind: 77}
)

// MarkedTerm returns a term with something behind the ends of its slices, at all of its nodes.
func MarkedTerm(t api.Term) api.Term {
	t.Type.Args = append(slices.Clone(t.Type.Args), typeMark)[:len(t.Type.Args)]
	t.Args = append(slices.Clone(t.Args), termMark)[:len(t.Args)]
	for i, a := range t.Args {
		t.Args[i] = MarkedTerm(a)
	}
	return t
}

// MarkedFormula returns a formula with something behind the ends of its slices and of those of its terms, at all of its nodes.
func MarkedFormula(f api.Formula) api.Formula {
	f.Type.Args = append(slices.Clone(f.Type.Args), typeMark)[:len(f.Type.Args)]
	f.Terms = append(slices.Clone(f.Terms), termMark)[:len(f.Terms)]
	f.Args = append(slices.Clone(f.Args), formulaMark)[:len(f.Args)]
	for i, t := range f.Terms {
		f.Terms[i] = MarkedTerm(t)
	}
	for i, a := range f.Args {
		f.Args[i] = MarkedFormula(a)
	}
	return f
}

// TermIsMarked reports whether what MarkedTerm put behind the ends of slices is still there.
func TermIsMarked(t api.Term) bool {
	s, n := len(t.Type.Args), len(t.Args)
	here := types.Same(t.Type.Args[:s+1][s], typeMark) && terms.Same(t.Args[:n+1][n], termMark)
	return here && !slices.ContainsFunc(t.Args, func(a api.Term) bool { return !TermIsMarked(a) })
}

// FormulaIsMarked reports whether what MarkedFormula put behind the ends of slices is still there.
func FormulaIsMarked(f api.Formula) bool {
	s, n, m := len(f.Type.Args), len(f.Terms), len(f.Args)
	here := types.Same(f.Type.Args[:s+1][s], typeMark) && terms.Same(f.Terms[:n+1][n], termMark) && f.Args[:m+1][m].Kind == formulaMark.Kind
	return here &&
		!slices.ContainsFunc(f.Terms, func(t api.Term) bool { return !TermIsMarked(t) }) &&
		!slices.ContainsFunc(f.Args, func(a api.Formula) bool { return !FormulaIsMarked(a) })
}

// MarkedProof returns a proof with something behind the ends of its slices and of those of its terms and formulas, at all of its nodes.
func MarkedProof(p api.Proof) api.Proof {
	p.Type.Args = append(slices.Clone(p.Type.Args), typeMark)[:len(p.Type.Args)]
	p.Terms = append(slices.Clone(p.Terms), termMark)[:len(p.Terms)]
	p.Forms = append(slices.Clone(p.Forms), formulaMark)[:len(p.Forms)]
	p.Args = append(slices.Clone(p.Args), proofMark)[:len(p.Args)]
	for i, t := range p.Terms {
		p.Terms[i] = MarkedTerm(t)
	}
	for i, f := range p.Forms {
		p.Forms[i] = MarkedFormula(f)
	}
	for i, a := range p.Args {
		p.Args[i] = MarkedProof(a)
	}
	return p
}

// ProofIsMarked reports whether what MarkedProof put behind the ends of slices is still there.
func ProofIsMarked(p api.Proof) bool {
	s, n, m, k := len(p.Type.Args), len(p.Terms), len(p.Forms), len(p.Args)
	here := types.Same(p.Type.Args[:s+1][s], typeMark) && terms.Same(p.Terms[:n+1][n], termMark) &&
		p.Forms[:m+1][m].Kind == formulaMark.Kind && p.Args[:k+1][k].Kind == proofMark.Kind
	return here &&
		!slices.ContainsFunc(p.Terms, func(t api.Term) bool { return !TermIsMarked(t) }) &&
		!slices.ContainsFunc(p.Forms, func(f api.Formula) bool { return !FormulaIsMarked(f) }) &&
		!slices.ContainsFunc(p.Args, func(a api.Proof) bool { return !ProofIsMarked(a) })
}
