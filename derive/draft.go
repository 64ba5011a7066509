package derive

import (
	"proofprograms/api"
	"proofprograms/formula"
	"proofprograms/proof"
	"proofprograms/subst"
	"proofprograms/terms"
)

// draft is a proof that is put together. It keeps the first error that is met on the way, so that its parts can be written inside each other.
type draft struct {
	err api.Errno
	// nodes counts those of the formulas that stand inside each other: see witnessed.
	nodes int
}

// built returns the proof that a function puts together from what is given.
// Errors: that of Check for each of what is given; ErrSize.
func built(write func(d *draft) api.Proof, given ...any) (api.Proof, api.Errno) {
	if err := checked(given...); err != api.OK {
		return api.Proof{}, err
	}
	var d draft
	p := write(&d)
	if d.err == api.ErrRange {
		// No sequent has a variable or hypothesis whose Index is too great to be lifted: nothing is promised, and any proof will do.
		return refl(zero()), api.OK
	}
	d.note(proof.Check(p))
	if d.err != api.OK {
		return api.Proof{}, d.err
	}
	return p, api.OK
}

// checked returns the first error of terms, formulas and proofs.
func checked(given ...any) api.Errno {
	for _, x := range given {
		err := api.OK
		switch x := x.(type) {
		case api.Term:
			err = terms.Check(x)
		case api.Formula:
			err = formula.Check(x)
		case api.Proof:
			err = proof.Check(x)
		}
		if err != api.OK {
			return err
		}
	}
	return api.OK
}

// note keeps the first error.
func (d *draft) note(err api.Errno) {
	if d.err == api.OK {
		d.err = err
	}
}

// term returns a term below one more variable.
func (d *draft) term(t api.Term) api.Term {
	t, err := subst.Lift(t, 0, 1)
	d.note(err)
	return t
}

// formula returns a formula with as many more variables as by says, behind which as many stand as from says.
func (d *draft) formula(f api.Formula, from, by int) api.Formula {
	f, err := formula.Lift(f, from, by)
	d.note(err)
	return f
}

// proof returns a proof below more variables, and with more hypotheses.
func (d *draft) proof(p api.Proof, variables, hyps int) api.Proof {
	p, err := proof.Lift(p, 0, variables)
	d.note(err)
	p, err = proof.LiftHyps(p, 0, hyps)
	d.note(err)
	return p
}

// put returns a formula with a term in place of its last variable.
func (d *draft) put(f api.Formula, t api.Term) api.Formula {
	f, err := formula.Put(f, 0, t)
	d.note(err)
	return f
}

// or returns a disjunction.
func (d *draft) or(a, b api.Formula) api.Formula {
	f, err := formula.Or(a, b)
	d.note(err)
	return f
}
