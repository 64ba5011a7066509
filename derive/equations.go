package derive

import (
	"proofprograms/api"
	"proofprograms/formula"
	"proofprograms/value"
)

// exact returns a proof of f itself from one of something that matches f: Subst proves the formula that it names.
// What is put together with it takes no more steps, and becomes no larger, whatever was handed in.
func (d *draft) exact(f api.Formula, p api.Proof) api.Proof {
	return rewrite(d.formula(f, 0, 1), refl(zero()), p)
}

// sym returns a proof of t = s.
func (d *draft) sym(s, t api.Term, p api.Proof) api.Proof {
	return d.turned(s, d.exact(equal(s, t), p))
}

// turned returns a proof of t = s from one of just s = t.
func (d *draft) turned(s api.Term, p api.Proof) api.Proof {
	return rewrite(equal(variable(0), d.term(s)), p, refl(s))
}

// followed returns a proof of s = u from one of s = t and one of just t = u.
func (d *draft) followed(s api.Term, p, q api.Proof) api.Proof {
	return rewrite(equal(d.term(s), variable(0)), q, p)
}

// cong returns a proof that g has the same value at s and t.
func (d *draft) cong(g, s, t api.Term, p api.Proof) api.Proof {
	first := apply(g, s)
	return rewrite(equal(d.term(first), apply(d.term(g), variable(0))), d.exact(equal(s, t), p), refl(first))
}

// injective returns a proof of s = t from Succ(s) = Succ(t): their predecessors are equal, and are s and t.
func (d *draft) injective(s, t api.Term, p api.Proof) api.Proof {
	x := variable(0)
	back := apply(value.Pred(), succ(x))
	same := rewrite(equal(d.term(s), apply(value.Pred(), x)), d.exact(equal(succ(s), succ(t)), p), d.computed(equal(x, back), s))
	return d.shortened(s, same, equal(back, x), t)
}

// absurd returns a proof of False from Zero = Succ(t): what is 0 at Zero is 1 at Succ(t).
func (d *draft) absurd(t api.Term, p api.Proof) api.Proof {
	test := func(x api.Term) api.Term { return choice(nat(), x, zero(), one()) }
	same := rewrite(equal(zero(), test(variable(0))), d.exact(equal(zero(), succ(t)), p), refl(zero()))
	return d.shortened(zero(), same, equal(test(succ(variable(0))), one()), t)
}

// computed returns a proof of something that matches e with t in place of the variable 0; with any number there, both sides of e have the same normal form.
func (d *draft) computed(e api.Formula, t api.Term) api.Proof {
	f := d.put(e, t)
	if matching(f) {
		return refl(f.Terms[0])
	}
	return d.instance(e, t)
}

// shortened returns a proof of s = r from one of something that matches s = l, l and r being the sides of e with t in place of the variable 0, of which computed says more.
func (d *draft) shortened(s api.Term, p api.Proof, e api.Formula, t api.Term) api.Proof {
	f := d.put(e, t)
	if matching(f) {
		return d.exact(equal(s, f.Terms[1]), p)
	}
	return d.followed(s, p, d.instance(e, t))
}

// matching reports whether both sides of an equation match. That may need too many steps, or steps to terms that are too large, even if both have one normal form.
func matching(e api.Formula) bool {
	return e.Kind == api.FormEq && formula.Match(equal(e.Terms[0], zero()), equal(e.Terms[1], zero())) == api.OK
}

// instance returns a proof of e with t in place of the variable 0 that takes no steps at t: e is proved for all numbers.
// That is not done where it can be left out, because there may be no room for one more variable.
func (d *draft) instance(e api.Formula, t api.Term) api.Proof {
	return at(t, under(api.ProofAllI, nat(), d.exact(e, refl(e.Terms[1]))))
}
