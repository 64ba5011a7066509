package derive

import (
	"proofprograms/api"
	"proofprograms/value"
)

// numbers returns a proof of f for all numbers: an induction that does not use its hypothesis.
func (d *draft) numbers(f api.Formula, p, q api.Proof) api.Proof {
	step := at(variable(0), d.proof(q, 2, 1))
	return under(api.ProofAllI, nat(), with(api.ProofInd, d.formula(f, 1, 1), variable(0), d.proof(p, 1, 0), step))
}

// lists returns a proof of f for all lists: an induction that does not use its hypothesis.
func (d *draft) lists(f api.Formula, p, q api.Proof) api.Proof {
	list := api.Type{Kind: api.TypeList}
	step := at(variable(0), at(variable(1), d.proof(q, 3, 1)))
	return under(api.ProofAllI, list, with(api.ProofListInd, d.formula(f, 1, 1), variable(0), d.proof(p, 1, 0), step))
}

// equality returns a proof that any two numbers are equal or not.
// What exists is a number that is computed at once, by recursion over one of them alone, so that the program in the proof is quick.
func (d *draft) equality() api.Proof {
	x, y := variable(1), variable(0)
	same := equal(differ(x, y), zero())
	disjunction := d.or(equal(x, y), not(equal(x, y)))
	// Each number is the same as itself: what is proved for x and x is so for x and y, if these are equal.
	itself := with(api.ProofInd, equal(differ(variable(0), variable(0)), zero()), x, refl(zero()), hyp(0))
	yes := rewrite(equal(differ(variable(2), variable(0)), zero()), hyp(0), itself)
	apart := impI(not(same), impI(equal(x, y), impE(hyp(1), yes)))
	both := rule(api.ProofAndI, at(y, d.equalities(x)), apart)
	return under(api.ProofAllI, nat(), under(api.ProofAllI, nat(), with(api.ProofExI, disjunction, differ(x, y), both)))
}

// equalities returns a proof that all numbers in which x does not differ are equal to x.
func (d *draft) equalities(x api.Term) api.Proof {
	aim := func(s, t api.Term) api.Formula { return implies(equal(differ(s, t), zero()), equal(s, t)) }
	never := func(s, t api.Term) api.Proof {
		return impI(equal(differ(s, t), zero()), d.exFalso(equal(s, t), d.sym(one(), zero(), hyp(0))))
	}
	all := func(p api.Proof) api.Proof { return under(api.ProofAllI, nat(), p) }
	k, m := variable(0), variable(1)
	both := impI(equal(differ(zero(), zero()), zero()), refl(zero()))
	start := d.numbers(aim(zero(), k), both, all(never(zero(), succ(k))))
	before := impE(at(k, hyp(1)), hyp(0))
	next := impI(aim(succ(m), succ(k)).Args[0], d.cong(lam(nat(), succ(k)), m, k, before))
	step := d.numbers(aim(succ(m), k), never(succ(variable(0)), zero()), all(next))
	return with(api.ProofInd, every(aim(m, k)), x, start, step)
}

// differ returns what is 0 if two numbers are equal, and otherwise 1.
// What the numbers before them lead to is computed before it is known whether it is asked for, once for each of them.
func differ(s, t api.Term) api.Term {
	f := api.Type{Kind: api.TypeFun, Args: []api.Type{nat(), nat()}}
	x := variable(0)
	before := apply(variable(1), apply(value.Pred(), x))
	step := apply(lam(nat(), choice(nat(), variable(1), one(), variable(2))), before)
	return apply(rec(f, lam(nat(), choice(nat(), x, zero(), one())), lam(nat(), lam(f, lam(nat(), step))), s), t)
}
