package kernel

import (
	"slices"

	"proofprograms/api"
	"proofprograms/class"
	"proofprograms/formula"
	"proofprograms/terms"
	"proofprograms/types"
)

// limits says how many variables and hypotheses may still be bound.
type limits struct{ variables, hypotheses int }

// less returns what is left of them, or ErrLimit.
func (l limits) less(variables, hypotheses int) (limits, api.Errno) {
	if l.variables < variables || l.hypotheses < hypotheses {
		return limits{}, api.ErrLimit
	}
	return limits{l.variables - variables, l.hypotheses - hypotheses}, api.OK
}

// place is what a part of a proof stands in.
type place struct {
	limits
	rules   map[int]rule
	lemmas  []api.Formula
	context []api.Type
	known   []hypothesis
}

// hypothesis is a formula with the number of variables that its context had.
// It is lifted over those that were bound since only where it is used, and once for each number of them, as most places do not use most hypotheses, and some are used often.
type hypothesis struct {
	formula   api.Formula
	variables int
	lifted    map[int]api.Formula
}

// at returns a hypothesis in a context with so many variables. Its error is that of formula.Lift.
func (h hypothesis) at(variables int) (api.Formula, api.Errno) {
	by := variables - h.variables
	if by == 0 {
		return h.formula, api.OK
	}
	if f, ok := h.lifted[by]; ok {
		return f, api.OK
	}
	f, err := formula.Lift(h.formula, 0, by)
	if err == api.OK {
		h.lifted[by] = f
	}
	return f, err
}

// result is what a proof proves, and the variables that it uses.
type result struct {
	formula api.Formula
	uses    set
}

// outermost returns the place of a whole proof. Its error is ErrLimit.
func outermost(lemmas []api.Formula, s api.Sequent) (place, api.Errno) {
	empty := place{limits: limits{api.MaxContext, api.MaxHyps}, rules: rules(), lemmas: lemmas}
	return empty.below(s.Types, s.Hyps...)
}

// below returns the place below more variables, and with more hypotheses, in which these variables may occur. Its error is ErrLimit.
func (g place) below(bound []api.Type, assumed ...api.Formula) (place, api.Errno) {
	left, err := g.less(len(bound), len(assumed))
	if err != api.OK {
		return place{}, err
	}
	g.limits = left
	// New memory each time: other parts of the proof stand in what this place is made of.
	g.context = slices.Concat(g.context, bound)
	g.known = slices.Clip(g.known)
	for _, f := range assumed {
		g.known = append(g.known, hypothesis{f, len(g.context), map[int]api.Formula{}})
	}
	return g, api.OK
}

// infer returns what a valid proof proves. Such proofs have so few nodes that calls within calls do no harm.
// Errors: that of the rule; ErrSize.
func (g place) infer(p api.Proof) (result, api.Errno) {
	got, err := g.rules[p.Kind](g, p)
	if err != api.OK {
		return result{}, err
	}
	if err := formula.Check(got.formula); err != api.OK {
		return result{}, err
	}
	if got.uses == 0 { // whether there is content or not
		return got, api.OK
	}
	content, err := class.Content(got.formula)
	if err != api.OK {
		return result{}, err
	}
	if !content {
		got.uses = 0
	}
	return got, api.OK
}

// shaped returns what a proof proves, if that has a kind.
// Errors: those of the proof; ErrShape.
func (g place) shaped(p api.Proof, kind int) (result, api.Errno) {
	got, err := g.infer(p)
	if err != api.OK {
		return result{}, err
	}
	if got.formula.Kind != kind {
		return result{}, api.ErrShape
	}
	return got, api.OK
}

// matching returns what a proof proves, if f with t in place of the variable 0 matches that.
// Errors: those of the proof; those of formula.Put; that of formula.Match.
func (g place) matching(p api.Proof, f api.Formula, t api.Term) (result, api.Errno) {
	got, err := g.infer(p)
	if err != api.OK {
		return result{}, err
	}
	asked, err := formula.Put(f, 0, t)
	if err != api.OK {
		return result{}, err
	}
	return got, formula.Match(asked, got.formula)
}

// fits returns OK if a term has a type.
// Errors: that of terms.TypeOf; ErrType.
func (g place) fits(t api.Term, s api.Type) api.Errno {
	u, err := terms.TypeOf(g.context, t)
	if err == api.OK && !types.Same(u, s) {
		return api.ErrType
	}
	return err
}

// typedBehind returns OK if f is typed in the context with the type of a closed term of one node behind it.
// There may be more types then than formula.Typed takes, which is therefore asked about f with that term in place of the variable 0: as both have one type, there is the same first error, if any.
func (g place) typedBehind(f api.Formula, closed api.Term) api.Errno {
	return formula.Typed(g.context, filled(f, 0, closed))
}
