package derive

import (
	"proofprograms/api"
)

// left returns a proof of a or b from one of a.
func (d *draft) left(a, b api.Formula, p api.Proof) api.Proof {
	yes := equal(zero(), zero())
	this, other := d.proof(d.exact(a, p), 0, 1), d.exFalso(b, impE(hyp(0), refl(zero())))
	return with(api.ProofExI, d.or(a, b), zero(), rule(api.ProofAndI, impI(yes, this), impI(not(yes), other)))
}

// right returns a proof of a or b from one of b.
func (d *draft) right(a, b api.Formula, p api.Proof) api.Proof {
	no := equal(one(), zero())
	other, this := d.exFalso(a, d.turned(one(), hyp(0))), d.proof(d.exact(b, p), 0, 1)
	return with(api.ProofExI, d.or(a, b), one(), rule(api.ProofAndI, impI(no, other), impI(not(no), this)))
}

// cases returns a proof of c from one of a or b, and those of c from a and from b.
// For all numbers, the body of the disjunction at the number implies c. That is an induction over the one that exists: a formula for all would need one variable more.
func (d *draft) cases(a, b, c api.Formula, p, q, r api.Proof) api.Proof {
	or := d.or(a, b)
	if d.err != api.OK {
		return api.Proof{}
	}
	body, next := or.Args[0], succ(variable(0))
	isZero, isNext := rule(api.ProofAndL, hyp(0)), rule(api.ProofAndR, hyp(0))
	never := impI(equal(next, zero()), d.absurd(variable(0), d.turned(next, hyp(0))))
	// Below the number that exists, and with the hypothesis that it has; the step is below one more, and has that of the induction, too.
	start := d.exact(d.formula(c, 0, 1), impE(d.proof(q, 1, 2), impE(isZero, refl(zero()))))
	start = impI(d.put(d.formula(body, 1, 1), zero()), start)
	step := d.exact(d.formula(c, 0, 2), impE(d.proof(r, 2, 3), impE(isNext, never)))
	step = impI(d.put(d.formula(body, 1, 2), next), step)
	f := implies(d.formula(body, 1, 1), d.formula(c, 0, 2))
	return rule(api.ProofExE, p, impE(with(api.ProofInd, f, variable(0), start, step), hyp(0)))
}
