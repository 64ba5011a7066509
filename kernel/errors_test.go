package kernel_test

import (
	"fmt"
	"strconv"
	"testing"

	"proofprograms/api"
)

// The function type has 63 nodes; a function of it with one more argument would have 65.
var (
	huge    = wide(31, nat)
	tooLong = lam(huge, lam(nat, zero)) // its type has more than api.MaxType nodes
)

// A wrong is a term, and the error of it.
type wrong struct {
	t   api.Term
	err api.Errno
}

// untyped returns terms that have no type in the context mixed with some variables behind it.
func untyped(up int) []wrong {
	x, l, f, beyond := v(up), v(up+1), v(up+2), v(up+3)
	return []wrong{
		{beyond, api.ErrScope}, {v(greatest), api.ErrScope}, {v(farthest + 1), api.ErrScope}, {succ(v(up + 9)), api.ErrScope}, {app(lam(nat, v(up+4)), zero), api.ErrScope},
		{succ(l), api.ErrType}, {app(f, l), api.ErrType}, {app(x, x), api.ErrType}, {app(lam(nat, v(up+3)), zero, zero, l), api.ErrType},
		{tooLong, api.ErrSize}, {app(tooLong, beyond), api.ErrSize}, {app(beyond, tooLong), api.ErrScope}, {pair(succ(l), v(greatest)), api.ErrType}, {pair(v(greatest), succ(l)), api.ErrScope},
	}
}

// wrongNumbers returns terms that are no numbers in that context.
func wrongNumbers(up int) []wrong {
	l := untyped(up)
	for _, x := range []api.Term{v(up + 1), v(up + 2), lam(nat, v(0)), only, pair(zero, zero)} {
		l = append(l, wrong{x, api.ErrType})
	}
	return l
}

// P11.2: hypotheses and lemmas that are not there.
func TestNotThere(t *testing.T) {
	k := in(nil, falsum(), falsum())
	k.lemmas = times(3, falsum())
	for _, n := range []int{2, 3, 16, farthest, farthest + 1, 1 << 62, greatest} {
		k.refuses(t, "hypothesis "+strconv.Itoa(n), hyp(n), api.ErrHyp)
		k.refuses(t, "lemma "+strconv.Itoa(n), lemma(max(n, 3)), api.ErrLemma)
	}
	in(nil).refuses(t, "no hypothesis", hyp(0), api.ErrHyp)
	in(nil).refuses(t, "no lemma", lemma(0), api.ErrLemma)
	k.proves(t, "the last of both", andI(hyp(1), lemma(2)), and(falsum(), falsum()))
	// A hypothesis that a rule binds is there only in the part in which it is bound.
	k.refuses(t, "behind ImpI", andI(impI(falsum(), hyp(2)), hyp(2)), api.ErrHyp)
	k.refuses(t, "before the bound one", rule(api.ProofExE, hyp(2), hyp(2)), api.ErrHyp)
	k.refuses(t, "first part of Ind", having(api.ProofInd, falsum(), zero, hyp(2), hyp(2)), api.ErrHyp)
	k.proves(t, "second part of Ind", having(api.ProofInd, falsum(), zero, hyp(1), hyp(2)), falsum())
	k.refuses(t, "no variable binds one", allIs(1, hyp(2)), api.ErrHyp)
	k.refuses(t, "nor does Subst", rewrite(falsum(), refl(zero), hyp(2)), api.ErrHyp)
}

// P11.2: rules with two parts, and those of propositions: the first error decides.
func TestErrorsOfPropositions(t *testing.T) {
	a := eq(v(0), num(1))
	k := in(mixed, imp(a, a), and(a, a), ex(nat, a), a)
	const e, con, im = 0, 2, 3 // hypotheses by their shape: an equation, a conjunction, an implication
	far := id(over(333))       // with one step too many
	for i, q := range []struct {
		p    api.Proof
		want api.Errno
	}{
		{andI(hyp(9), last), api.ErrHyp},
		{andI(last, hyp(9)), api.ErrLemma},
		{andI(hyp(e), hyp(9)), api.ErrHyp},
		{andI(rule(api.ProofAndL, hyp(e)), hyp(9)), api.ErrShape},
		{rule(api.ProofAndL, hyp(9)), api.ErrHyp},
		{rule(api.ProofAndR, last), api.ErrLemma},
		{rule(api.ProofAndL, hyp(e)), api.ErrShape},
		{rule(api.ProofAndR, hyp(e)), api.ErrShape},
		{rule(api.ProofAndL, hyp(im)), api.ErrShape},
		{rule(api.ProofAndR, hyp(1)), api.ErrShape},
		{rule(api.ProofImpE, hyp(9), last), api.ErrHyp},
		{rule(api.ProofImpE, hyp(e), last), api.ErrShape},
		{rule(api.ProofImpE, hyp(con), last), api.ErrShape},
		{rule(api.ProofImpE, hyp(1), last), api.ErrShape},
		{rule(api.ProofImpE, hyp(im), last), api.ErrLemma},
		{rule(api.ProofImpE, hyp(im), hyp(con)), api.ErrMatch},
		{rule(api.ProofImpE, hyp(im), refl(zero)), api.ErrMatch},
		{rule(api.ProofImpE, hyp(im), hyp(e)), api.OK},
		{rule(api.ProofImpE, impI(eq(far, zero), hyp(0)), refl(zero)), api.ErrSteps},
		{rule(api.ProofImpE, impI(eq(zero, zero), hyp(0)), refl(far)), api.ErrSteps},
		{rule(api.ProofImpE, impI(eq(zero, far), hyp(0)), refl(num(1))), api.ErrMatch}, // left sides first
		{rule(api.ProofImpE, impI(and(eq(zero, num(1)), eq(far, zero)), hyp(0)), andI(refl(zero), refl(zero))), api.ErrMatch},
		{rule(api.ProofImpE, impI(and(eq(far, zero), eq(zero, num(1))), hyp(0)), andI(refl(zero), refl(zero))), api.ErrSteps},
		{rule(api.ProofImpE, impI(and(eq(far, zero), falsum()), hyp(0)), refl(zero)), api.ErrMatch}, // nodes before their parts
		{rule(api.ProofImpE, impI(eq(far, zero), hyp(0)), refl(swelling())), api.ErrSteps},          // the premise that is asked for first
		{rule(api.ProofImpE, impI(eq(swelling(), zero), hyp(0)), refl(far)), api.ErrSize},
		{andI(last, impI(api.Formula{}, last)), api.ErrForm},
		{impI(eq(v(9), zero), last), api.ErrScope},
		{impI(a, last), api.ErrLemma},
		{impI(all(nat, eq(v(1), zero)), hyp(9)), api.ErrHyp},
		{impI(all(nat, eq(v(4), zero)), hyp(9)), api.ErrScope},
		{impI(all(nat, eq(v(3), zero)), hyp(9)), api.ErrType},
	} {
		k.orProves(t, strconv.Itoa(i), q.p, q.want)
	}
	for i, w := range wrongNumbers(0) {
		k.refuses(t, fmt.Sprint("Refl ", i), refl(w.t), w.err)
		k.refuses(t, fmt.Sprint("ImpI ", i), impI(eq(w.t, zero), last), w.err)
		k.refuses(t, fmt.Sprint("ImpI, right ", i), impI(and(falsum(), eq(zero, w.t)), last), w.err)
	}
	for i, w := range wrongNumbers(3) {
		k.refuses(t, fmt.Sprint("Refl below ", i), allIs(3, impI(a, refl(w.t))), w.err)
		k.refuses(t, fmt.Sprint("ImpI below ", i), allIs(2, impI(ex(nat, eq(zero, w.t)), last)), w.err)
	}
}

// swelling returns a number that a step makes a term with too many nodes.
func swelling() api.Term {
	return api.Term{Kind: api.TermFst, Args: []api.Term{app(lam(nat, pair(v(0), pair(v(0), v(0)))), num(1400))}}
}

// orProves is refuses, but asks nothing of the result where there is no error.
func (k known) orProves(t *testing.T, what string, p api.Proof, want api.Errno) {
	t.Helper()
	if want != api.OK {
		k.refuses(t, what, p, want)
		return
	}
	_, err := infer(k, p)
	must(t, what, err, want)
}

// P11.2: AllE and AllUE: their term, then the errors of the part, its shape and its type.
func TestErrorsOfInstances(t *testing.T) {
	k := in(mixed, all(nat, eq(v(0), v(1))), allU(nat, eq(v(0), v(1))), ex(nat, eq(v(0), v(1))), all(list, falsum()), allU(list, falsum()), falsum())
	for i, kind := range []int{api.ProofAllE, api.ProofAllUE} {
		name := func(s string) string { return fmt.Sprint(kind, " ", s) }
		right, other, lists := hyp(5-i), hyp(4+i), hyp(2-i)
		for j, w := range untyped(0) {
			k.refuses(t, name("term "+strconv.Itoa(j)), at(kind, w.t, last), w.err)
			k.refuses(t, name("term below "+strconv.Itoa(j)), allIs(2, at(kind, untyped(2)[j].t, last)), w.err)
		}
		for _, x := range []api.Term{v(0), v(1), v(2), only, lam(nat, v(0)), pair(v(0), v(1))} {
			k.refuses(t, name("part"), at(kind, x, last), api.ErrLemma)
			for _, p := range []api.Proof{other, hyp(3), hyp(0)} {
				k.refuses(t, name("shape"), at(kind, x, p), api.ErrShape)
			}
		}
		for _, x := range []api.Term{v(1), v(2), only, lam(nat, v(0)), pair(v(0), v(1))} {
			k.refuses(t, name("type"), at(kind, x, right), api.ErrType)
		}
		k.refuses(t, name("type of lists"), at(kind, v(0), lists), api.ErrType)
		k.proves(t, name("right"), at(kind, num(1), right), eq(num(1), v(0)))
		k.proves(t, name("right for lists"), at(kind, none, lists), falsum())
	}
}

// P11.2: ExI and ExUI: their formula, its shape, their term, its type, the part, and what it is compared with.
func TestErrorsOfWitnesses(t *testing.T) {
	k := in(mixed, eq(v(0), num(1)))
	for _, q := range [][2]int{{api.ProofExI, api.FormEx}, {api.ProofExUI, api.FormExU}} {
		kind, quantifier := q[0], q[1]
		name := func(s string) string { return fmt.Sprint(kind, " ", s) }
		right := quant(quantifier, nat, eq(v(0), num(1)))
		for i, w := range wrongNumbers(0) {
			k.refuses(t, name("formula "+strconv.Itoa(i)), having(kind, eq(w.t, zero), tooLong, last), w.err)
			k.refuses(t, name("formula below "+strconv.Itoa(i)), having(kind, quant(quantifier, nat, eq(zero, wrongNumbers(1)[i].t)), tooLong, last), w.err)
			k.refuses(t, name("term "+strconv.Itoa(i)), having(kind, right, w.t, last), w.err)
		}
		for _, f := range []api.Formula{falsum(), all(nat, falsum()), allU(nat, falsum()), and(falsum(), falsum()), imp(right, right), quant(api.FormEx+api.FormExU-quantifier, nat, falsum())} {
			k.refuses(t, name("shape"), having(kind, f, v(greatest), last), api.ErrShape)
		}
		k.refuses(t, name("type"), having(kind, quant(quantifier, list, falsum()), v(0), last), api.ErrType)
		k.refuses(t, name("part"), having(kind, right, v(0), last), api.ErrLemma)
		k.refuses(t, name("match"), having(kind, right, num(2), hyp(0)), api.ErrMatch)
		k.refuses(t, name("other side"), having(kind, quant(quantifier, nat, eq(num(1), v(0))), v(0), hyp(0)), api.ErrMatch)
		k.refuses(t, name("steps"), having(kind, right, id(over(333)), hyp(0)), api.ErrSteps)
		k.refuses(t, name("steps of the part"), having(kind, quant(quantifier, nat, eq(v(0), v(0))), zero, refl(id(over(333)))), api.ErrSteps)
		k.refuses(t, name("what is asked for first"), having(kind, quant(quantifier, nat, eq(id(over(333)), v(0))), zero, refl(swelling())), api.ErrSteps)
		k.orProves(t, name("right"), having(kind, right, id(v(0)), hyp(0)), api.OK)
	}
}

// P11.2: ExE and ExUE: the first part, its shape, the second part, its variable, its uses.
func TestErrorsOfOpening(t *testing.T) {
	k := in(mixed, ex(list, eq(v(1), zero)), exU(list, eq(v(1), zero)), all(list, eq(v(1), zero)), and(falsum(), falsum()), falsum())
	for i, kind := range []int{api.ProofExE, api.ProofExUE} {
		right, other := hyp(4-i), hyp(3+i)
		k.refuses(t, "first part", rule(kind, hyp(9), last), api.ErrHyp)
		for _, p := range []api.Proof{other, hyp(2), hyp(1), hyp(0)} {
			k.refuses(t, "shape", rule(kind, p, last), api.ErrShape)
		}
		k.refuses(t, "second part", rule(kind, right, last), api.ErrLemma)
		k.refuses(t, "type of the variable", rule(kind, right, refl(v(0))), api.ErrType)
		k.refuses(t, "variable", rule(kind, right, refl(above(3, rec(nat, zero, lam(nat, lam(nat, v(0))), length(v(0)))))), api.ErrScope)
		k.refuses(t, "no more variables", rule(kind, right, refl(v(4))), api.ErrScope)
		k.proves(t, "right", rule(kind, right, hyp(0)), eq(v(0), zero))
	}
}

// length returns the length of a list.
func length(l api.Term) api.Term {
	return api.Term{Kind: api.TermFold, Type: nat, Args: []api.Term{zero, lam(nat, lam(list, lam(nat, succ(v(0))))), l}}
}

// P11.2: Ind and ListInd: their formula, their term, the first part, what it is compared with, the second part, and what that is compared with.
func TestErrorsOfInductions(t *testing.T) {
	k := in(mixed, eq(v(0), num(1)))
	for _, q := range []struct {
		kind          int
		number, other api.Term // of the right and of the wrong type
		misused       api.Term // the variable of the formula as what it is not
	}{
		{api.ProofInd, v(0), v(1), length(v(0))},
		{api.ProofListInd, v(1), v(0), succ(v(0))},
	} {
		name := func(s string) string { return fmt.Sprint(q.kind, " ", s) }
		for i, w := range wrongNumbers(1) {
			k.refuses(t, name("formula "+strconv.Itoa(i)), having(q.kind, eq(w.t, zero), tooLong, last, hyp(9)), w.err)
			k.refuses(t, name("formula below "+strconv.Itoa(i)), having(q.kind, and(falsum(), all(nat, eq(zero, wrongNumbers(2)[i].t))), tooLong, last, hyp(9)), w.err)
		}
		for i, w := range untyped(0) {
			k.refuses(t, name("term "+strconv.Itoa(i)), having(q.kind, falsum(), w.t, last, hyp(9)), w.err)
		}
		for _, x := range []api.Term{q.other, v(2), only, lam(nat, v(0)), pair(v(0), v(1))} {
			k.refuses(t, name("type"), having(q.kind, falsum(), x, last, hyp(9)), api.ErrType)
		}
		// The variable of the formula has the type over which the induction goes.
		k.refuses(t, name("formula of the other type"), having(q.kind, eq(q.misused, zero), tooLong, last, hyp(9)), api.ErrType)
		k.refuses(t, name("first part"), having(q.kind, falsum(), q.number, last, hyp(9)), api.ErrLemma)
		k.refuses(t, name("first match"), having(q.kind, falsum(), q.number, refl(zero), last), api.ErrMatch)
		k.refuses(t, name("second part"), having(q.kind, eq(zero, zero), q.number, refl(zero), last), api.ErrLemma)
		k.refuses(t, name("second match"), having(q.kind, eq(zero, zero), q.number, refl(zero), refl(num(1))), api.ErrMatch)
		k.refuses(t, name("steps"), having(q.kind, eq(id(over(333)), zero), q.number, refl(zero), last), api.ErrSteps)
		k.refuses(t, name("steps of the first part"), having(q.kind, eq(zero, zero), q.number, refl(id(over(333))), last), api.ErrSteps)
		k.refuses(t, name("steps of the second part"), having(q.kind, eq(zero, zero), q.number, refl(zero), refl(id(over(333)))), api.ErrSteps)
		k.orProves(t, name("right"), having(q.kind, eq(zero, zero), q.number, refl(zero), refl(zero)), api.OK)
	}
}

// P11.2: Subst: its formula, the equation, its shape, the other part, and what that is compared with. Choice: its shape.
func TestErrorsOfSubstAndChoice(t *testing.T) {
	k := in(mixed, eq(v(0), num(1)), all(nat, ex(nat, falsum())), all(nat, exU(nat, falsum())), allU(nat, ex(nat, falsum())), all(nat, all(nat, falsum())), ex(nat, all(nat, falsum())))
	for i, w := range wrongNumbers(1) {
		k.refuses(t, fmt.Sprint("formula ", i), rewrite(eq(zero, w.t), hyp(9), last), w.err)
		k.refuses(t, fmt.Sprint("formula below ", i), rewrite(all(nat, eq(wrongNumbers(2)[i].t, zero)), hyp(9), last), w.err)
	}
	f := eq(v(0), num(1))
	for i, q := range []struct {
		p    api.Proof
		want api.Errno
	}{
		{rewrite(f, hyp(9), last), api.ErrHyp},
		{rewrite(f, hyp(4), last), api.ErrShape},
		{rewrite(f, hyp(0), last), api.ErrShape},
		{rewrite(f, hyp(5), last), api.ErrLemma},
		{rewrite(f, hyp(5), hyp(4)), api.ErrMatch},
		{rewrite(f, refl(num(2)), hyp(5)), api.ErrMatch},
		{rewrite(f, hyp(5), hyp(5)), api.OK},
		{rewrite(f, refl(id(over(333))), hyp(5)), api.ErrSteps},
		{rewrite(f, refl(num(1)), refl(id(over(333)))), api.ErrSteps},
		{rewrite(eq(v(0), app(v(3), v(0))), hyp(5), last), api.ErrLemma},
		{rewrite(eq(v(0), app(v(0), v(0))), hyp(5), last), api.ErrType},
		{rule(api.ProofChoice, hyp(9)), api.ErrHyp},
		{rule(api.ProofChoice, hyp(5)), api.ErrShape},
		{rule(api.ProofChoice, hyp(4)), api.OK},
		{rule(api.ProofChoice, hyp(3)), api.ErrShape},
		{rule(api.ProofChoice, hyp(2)), api.ErrShape},
		{rule(api.ProofChoice, hyp(1)), api.ErrShape},
		{rule(api.ProofChoice, hyp(0)), api.ErrShape},
	} {
		k.orProves(t, strconv.Itoa(i), q.p, q.want)
	}
}
