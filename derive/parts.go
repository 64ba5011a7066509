package derive

import (
	"proofprograms/api"
	"proofprograms/formula"
)

// nat returns the type of numbers.
func nat() api.Type { return api.Type{Kind: api.TypeNat} }

// variable returns a variable.
func variable(i int) api.Term { return api.Term{Kind: api.TermVar, Index: i} }

// zero returns the number 0.
func zero() api.Term { return api.Term{Kind: api.TermZero} }

// one returns the number 1.
func one() api.Term { return succ(zero()) }

// succ returns the next number.
func succ(t api.Term) api.Term { return api.Term{Kind: api.TermSucc, Args: []api.Term{t}} }

// apply returns a function applied to a term.
func apply(f, t api.Term) api.Term { return api.Term{Kind: api.TermApp, Args: []api.Term{f, t}} }

// lam returns a function.
func lam(s api.Type, body api.Term) api.Term {
	return api.Term{Kind: api.TermLam, Type: s, Args: []api.Term{body}}
}

// rec returns a recursion over a number.
func rec(s api.Type, first, step, over api.Term) api.Term {
	return api.Term{Kind: api.TermRec, Type: s, Args: []api.Term{first, step, over}}
}

// choice returns what is a if the number x is 0, and otherwise b, which stands below two more variables that do not occur in it.
func choice(s api.Type, x, a, b api.Term) api.Term { return rec(s, a, lam(nat(), lam(s, b)), x) }

// equal returns an equation.
func equal(s, t api.Term) api.Formula {
	return api.Formula{Kind: api.FormEq, Terms: []api.Term{s, t}}
}

// implies returns an implication.
func implies(a, b api.Formula) api.Formula {
	return api.Formula{Kind: api.FormImp, Args: []api.Formula{a, b}}
}

// not returns the negation of a formula.
func not(f api.Formula) api.Formula { return implies(f, formula.False()) }

// every returns a formula for all numbers.
func every(f api.Formula) api.Formula {
	return api.Formula{Kind: api.FormAll, Type: nat(), Args: []api.Formula{f}}
}

// hyp returns a hypothesis.
func hyp(i int) api.Proof { return api.Proof{Kind: api.ProofHyp, Index: i} }

// rule returns a proof of a kind that has nothing but parts.
func rule(kind int, l ...api.Proof) api.Proof { return api.Proof{Kind: kind, Args: l} }

// impI returns a proof of an implication.
func impI(f api.Formula, p api.Proof) api.Proof {
	return api.Proof{Kind: api.ProofImpI, Forms: []api.Formula{f}, Args: []api.Proof{p}}
}

// impE returns a proof of the conclusion of an implication.
func impE(p, q api.Proof) api.Proof { return rule(api.ProofImpE, p, q) }

// under returns a proof of a kind that binds a variable of a type.
func under(kind int, s api.Type, p api.Proof) api.Proof {
	return api.Proof{Kind: kind, Type: s, Args: []api.Proof{p}}
}

// at returns a proof of a formula for all at a term.
func at(t api.Term, p api.Proof) api.Proof {
	return api.Proof{Kind: api.ProofAllE, Terms: []api.Term{t}, Args: []api.Proof{p}}
}

// with returns a proof of a kind that has a formula and a term.
func with(kind int, f api.Formula, t api.Term, l ...api.Proof) api.Proof {
	return api.Proof{Kind: kind, Forms: []api.Formula{f}, Terms: []api.Term{t}, Args: l}
}

// refl returns a proof that a number is itself.
func refl(t api.Term) api.Proof { return api.Proof{Kind: api.ProofRefl, Terms: []api.Term{t}} }

// rewrite returns a proof of f at the right side of the equation that p proves, q being one of f at its left side.
func rewrite(f api.Formula, p, q api.Proof) api.Proof {
	return api.Proof{Kind: api.ProofSubst, Forms: []api.Formula{f}, Args: []api.Proof{p, q}}
}
