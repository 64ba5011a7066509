package formula

import (
	"slices"

	"proofprograms/api"
	"proofprograms/subst"
)

// Lift returns the formula in which each free variable that is at least from is greater by by.
// Errors: that of Check; ErrRange.
func Lift(f api.Formula, from, by int) (api.Formula, api.Errno) {
	return changed(f, func(t api.Term) (api.Term, api.Errno) { return subst.Lift(t, from, by) })
}

// Lower returns the formula in which each free variable greater than at is one less.
// Errors: that of Check; ErrRange; ErrScope if at is free in the formula.
func Lower(f api.Formula, at int) (api.Formula, api.Errno) {
	return changed(f, func(t api.Term) (api.Term, api.Errno) { return subst.Lower(t, at) })
}

// Put returns the formula with s, lifted to where it comes to stand, in place of the free variable at, and with each greater one one less.
// Errors: that of Check for f; ErrRange for at; that of terms.Check for s; ErrRange for an Index; ErrSize.
func Put(f api.Formula, at int, s api.Term) (api.Formula, api.Errno) {
	return changed(f, func(t api.Term) (api.Term, api.Errno) { return subst.Put(t, at, s) })
}

// Uses returns the free variables of a formula, ascending. Its error is that of Check.
func Uses(f api.Formula) ([]int, api.Errno) {
	if err := Check(f); err != api.OK {
		return nil, err
	}
	return subst.Uses(asTerm(f))
}

// changed returns a formula with what change makes of the formula as a term.
// Errors: that of Check; that of change.
func changed(f api.Formula, change func(t api.Term) (api.Term, api.Errno)) (api.Formula, api.Errno) {
	if err := Check(f); err != api.OK {
		return api.Formula{}, err
	}
	t, err := change(asTerm(f))
	if err != api.OK {
		return api.Formula{}, err
	}
	return reread(f, t), api.OK
}

// asTerm returns a valid formula as a term with the same free variables and as many nodes: Lam for quantifiers, Pair for all others.
// So package subst sees the whole formula at once, and the limit of nodes is the same for both. Asked for a single term of it, it would refuse variables that many quantifiers put beyond api.MaxTerm, and could not tell the size of the result.
func asTerm(f api.Formula) api.Term {
	t := api.Term{Kind: api.TermPair, Args: f.Terms}
	switch f.Kind {
	case api.FormAll, api.FormEx, api.FormAllU, api.FormExU:
		t.Kind, t.Type = api.TermLam, f.Type
		fallthrough
	case api.FormAnd, api.FormImp:
		t.Args = make([]api.Term, len(f.Args))
		for i, a := range f.Args {
			t.Args[i] = asTerm(a)
		}
	}
	return t
}

// reread returns a valid formula with the terms that t, which was made of it as a term, has in their places.
func reread(f api.Formula, t api.Term) api.Formula {
	if f.Kind == api.FormEq {
		f.Terms = t.Args
		return f
	}
	f.Args = slices.Clone(f.Args)
	for i, a := range f.Args {
		f.Args[i] = reread(a, t.Args[i])
	}
	return f
}
