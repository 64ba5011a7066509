package class

import (
	"proofprograms/api"
	"proofprograms/formula"
	"proofprograms/subst"
	"proofprograms/terms"
	"proofprograms/value"
)

// Less returns the formula that one number is less than another one.
// Errors: that of terms.Check for s; that for t; ErrSize.
func Less(s, t api.Term) (api.Formula, api.Errno) {
	if err := terms.Check(s); err != api.OK {
		return api.Formula{}, err
	}
	if err := terms.Check(t); err != api.OK {
		return api.Formula{}, err
	}
	return whole(less(s, t))
}

// Bounded returns a quantifier over the numbers below a term.
// Errors: those of subst.Lift for t; that of formula.Check for f; ErrSize.
func Bounded(all bool, t api.Term, f api.Formula) (api.Formula, api.Errno) {
	limit, err := subst.Lift(t, 0, 1)
	if err != api.OK {
		return api.Formula{}, err
	}
	if err := formula.Check(f); err != api.OK {
		return api.Formula{}, err
	}
	kind := api.FormEx
	if all {
		kind = api.FormAll
	}
	inner := api.Formula{Kind: below(kind), Args: []api.Formula{less(number(), limit), f}}
	return whole(api.Formula{Kind: kind, Type: api.Type{Kind: api.TypeNat}, Args: []api.Formula{inner}})
}

// Bound returns whether a bounded quantifier is All, the term below which its numbers are, and what it says of them, and whether a formula is one, and valid.
func Bound(f api.Formula) (bool, api.Term, api.Formula, bool) {
	if formula.Check(f) != api.OK {
		return false, api.Term{}, api.Formula{}, false
	}
	t, body, is := parts(f)
	return is && f.Kind == api.FormAll, t, body, is
}

// parts returns the parts of a bounded quantifier, and whether a valid formula is one.
func parts(f api.Formula) (api.Term, api.Formula, bool) {
	join := below(f.Kind)
	if join == 0 || f.Type.Kind != api.TypeNat || f.Args[0].Kind != join {
		return api.Term{}, api.Formula{}, false
	}
	inner := f.Args[0].Args
	limit, is := limitOf(inner[0])
	if !is {
		return api.Term{}, api.Formula{}, false
	}
	t, err := subst.Lower(limit, 0)
	if err != api.OK { // the number stands in its own limit
		return api.Term{}, api.Formula{}, false
	}
	return t, inner[1], true
}

// below returns the kind of what stands below a bounded quantifier of a kind, or 0 if there are none of this kind.
func below(kind int) int {
	switch kind {
	case api.FormAll:
		return api.FormImp
	case api.FormEx:
		return api.FormAnd
	}
	return 0
}

// limitOf returns the term than which the bound number is less in a valid formula, and whether the formula says this.
func limitOf(f api.Formula) (api.Term, bool) {
	if f.Kind != api.FormEq || f.Terms[0].Kind != api.TermApp {
		return api.Term{}, false
	}
	t := f.Terms[0].Args[1]
	if !formula.Same(f, less(number(), t)) {
		return api.Term{}, false
	}
	return t, true
}

// less is Less of valid terms. It may have too many nodes.
func less(s, t api.Term) api.Formula {
	next := api.Term{Kind: api.TermSucc, Args: []api.Term{s}}
	difference := apply(apply(value.Sub(), next), t)
	return api.Formula{Kind: api.FormEq, Terms: []api.Term{difference, {Kind: api.TermZero}}}
}

// apply returns a function applied to a term.
func apply(f, a api.Term) api.Term { return api.Term{Kind: api.TermApp, Args: []api.Term{f, a}} }

// number returns the variable that the quantifier right above binds.
func number() api.Term { return api.Term{Kind: api.TermVar} }

// whole returns a formula that was put together of valid parts, or ErrSize.
func whole(f api.Formula) (api.Formula, api.Errno) {
	if err := formula.Check(f); err != api.OK {
		return api.Formula{}, err
	}
	return f, api.OK
}
