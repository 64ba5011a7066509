package kernel

import (
	"slices"

	"proofprograms/api"
	"proofprograms/reduce"
	"proofprograms/subst"
)

// filled returns a valid formula that stands below depth quantifiers with a closed term in place of the variable 0, and with each greater one one less.
// formula.Put would refuse an Index that is too large, while another error may come before that one. Valid formulas have so few nodes that calls within calls do no harm, here and below.
func filled(f api.Formula, depth int, closed api.Term) api.Formula {
	f.Terms = slices.Clone(f.Terms)
	for i, t := range f.Terms {
		f.Terms[i] = filledTerm(t, depth, closed)
	}
	f.Args = slices.Clone(f.Args)
	for i, a := range f.Args {
		f.Args[i] = filled(a, inside(f, depth), closed)
	}
	return f
}

// filledTerm is filled of a valid term.
func filledTerm(t api.Term, depth int, closed api.Term) api.Term {
	switch {
	case t.Kind == api.TermVar && t.Index == depth:
		return closed
	case t.Kind == api.TermVar && t.Index > depth:
		t.Index--
	case t.Kind == api.TermLam:
		depth++
	}
	t.Args = slices.Clone(t.Args)
	for i, a := range t.Args {
		t.Args[i] = filledTerm(a, depth, closed)
	}
	return t
}

// independent returns a valid formula if the variable 0 is not free in it, or else the formula with all its terms in normal form, if it is not free in that. This one may have too many nodes.
// Errors: that of reduce.Normal; ErrScope.
func independent(f api.Formula) (api.Formula, api.Errno) {
	if !occurs(f, 0) {
		return f, api.OK
	}
	f, err := normal(f)
	if err != api.OK {
		return api.Formula{}, err
	}
	if occurs(f, 0) {
		return api.Formula{}, api.ErrScope
	}
	return f, api.OK
}

// occurs reports whether a variable is free in a formula of valid terms.
func occurs(f api.Formula, variable int) bool {
	inTerm := func(t api.Term) bool {
		found, _ := subst.Uses(t) // without an error, as the term is valid
		return slices.Contains(found, variable)
	}
	inArg := func(a api.Formula) bool { return occurs(a, inside(f, variable)) }
	return slices.ContainsFunc(f.Terms, inTerm) || slices.ContainsFunc(f.Args, inArg)
}

// normal returns a valid formula with all its terms in normal form. Its error is that of reduce.Normal for the first one that has any.
func normal(f api.Formula) (api.Formula, api.Errno) {
	var err api.Errno
	f.Terms = slices.Clone(f.Terms)
	for i, t := range f.Terms {
		if f.Terms[i], _, err = reduce.Normal(t, api.MaxSteps); err != api.OK {
			return api.Formula{}, err
		}
	}
	f.Args = slices.Clone(f.Args)
	for i, a := range f.Args {
		if f.Args[i], err = normal(a); err != api.OK {
			return api.Formula{}, err
		}
	}
	return f, api.OK
}

// inside returns the number that a variable has in the Args of a formula.
func inside(f api.Formula, variable int) int {
	switch f.Kind {
	case api.FormAll, api.FormEx, api.FormAllU, api.FormExU:
		return variable + 1
	}
	return variable
}
