package kernel_test

import (
	"strconv"
	"testing"

	"proofprograms/api"
	"proofprograms/samples"
)

// The context of most tests: Var 0 is a number, Var 1 a list, Var 2 a function.
var mixed = []api.Type{fun(nat, nat), list, nat}

// witness returns a proof that there is a number, with this one as witness: it uses the variables of the term.
func witness(x api.Term) api.Proof {
	return having(api.ProofExI, anything(), x, refl(x))
}

// anything returns the formula that there is a number, which has content.
func anything() api.Formula { return ex(nat, eq(v(0), v(0))) }

// P11.2: what hypotheses and lemmas prove, also below each binder.
func TestHypsAndLemmas(t *testing.T) {
	a, b := eq(v(0), app(v(2), zero)), all(list, eq(v(1), app(v(3), v(1))))
	k := in(mixed, a, b)
	k.lemmas = []api.Formula{falsum(), anything(), all(nat, eq(v(0), v(0))), exU(list, falsum()), ex(list, falsum())}
	k.proves(t, "the last hypothesis", hyp(0), b)
	k.proves(t, "the first hypothesis", hyp(1), a)
	k.proves(t, "a lemma", lemma(1), anything())
	aUp, bUp := eq(v(1), app(v(3), zero)), all(list, eq(v(2), app(v(4), v(2))))
	aUp2 := eq(v(2), app(v(4), zero))
	k.proves(t, "AllI", under(api.ProofAllI, list, andI(hyp(0), andI(hyp(1), lemma(0)))), all(list, and(bUp, and(aUp, falsum()))))
	k.proves(t, "AllUI", under(api.ProofAllUI, list, andI(hyp(0), andI(hyp(1), lemma(0)))), allU(list, and(bUp, and(aUp, falsum()))))
	k.proves(t, "AllI twice", allIs(2, hyp(1)), all(nat, all(nat, aUp2)))
	k.proves(t, "behind AllI", andI(under(api.ProofAllI, unit, hyp(1)), hyp(1)), and(all(unit, aUp), a))
	c := eq(v(0), zero)
	k.proves(t, "ImpI", impI(c, andI(hyp(0), andI(hyp(1), andI(hyp(2), lemma(0))))), imp(c, and(c, and(b, and(a, falsum())))))
	k.proves(t, "behind ImpI", andI(impI(c, hyp(2)), hyp(1)), and(imp(c, a), a))
	k.proves(t, "ImpI below AllI", under(api.ProofAllI, nat, impI(c, andI(hyp(0), hyp(2)))), all(nat, imp(c, and(c, aUp))))
	k.proves(t, "AllI below ImpI", impI(c, under(api.ProofAllI, nat, andI(hyp(0), hyp(2)))), imp(c, all(nat, and(eq(v(1), zero), aUp))))
	k.proves(t, "ExE", rule(api.ProofExE, lemma(1), andI(hyp(2), andI(hyp(1), lemma(0)))), and(a, and(b, falsum())))
	k.proves(t, "ExUE", rule(api.ProofExUE, lemma(3), andI(hyp(2), andI(hyp(1), hyp(0)))), and(a, and(b, falsum())))
	k.proves(t, "behind ExE", andI(rule(api.ProofExE, lemma(4), hyp(0)), hyp(0)), and(falsum(), b))
	step := rule(api.ProofAndL, andI(refl(succ(v(0))), andI(hyp(2), andI(hyp(1), lemma(0)))))
	k.proves(t, "Ind", having(api.ProofInd, eq(v(0), v(0)), v(0), refl(zero), step), eq(v(0), v(0)))
	// What is proved in an induction must be what its formula says; so these conclusions say where the hypotheses are.
	a1, a2 := eq(v(1), app(v(3), zero)), eq(v(2), app(v(4), zero))
	k.proves(t, "Ind keeps them", having(api.ProofInd, a1, zero, hyp(1), hyp(2)), a)
	k.proves(t, "Ind has its own", having(api.ProofInd, a1, zero, hyp(1), hyp(0)), a)
	k.proves(t, "ListInd keeps them", having(api.ProofListInd, a1, none, hyp(1), hyp(2)), a)
	k.proves(t, "ListInd has its own", having(api.ProofListInd, and(a1, all(nat, a2)), none, andI(hyp(1), allIs(1, hyp(1))), hyp(0)), and(a, all(nat, a1)))
	k.proves(t, "behind ListInd", andI(having(api.ProofListInd, a1, none, hyp(1), hyp(0)), hyp(1)), and(a, a))
}

// P11.2: conjunctions and implications.
func TestPropositions(t *testing.T) {
	a, b, c := eq(v(0), num(1)), eq(v(0), num(2)), eq(app(v(2), zero), v(0))
	k := in(mixed, imp(and(a, eq(id(v(0)), zero)), c), and(eq(id(v(0)), num(1)), eq(v(0), id(zero))), imp(a, b), and(a, and(b, c)), a)
	for i, q := range []struct {
		p    api.Proof
		want api.Formula
	}{
		{andI(hyp(0), refl(v(0))), and(a, eq(v(0), v(0)))},
		{andI(refl(v(0)), hyp(0)), and(eq(v(0), v(0)), a)},
		{rule(api.ProofAndL, hyp(1)), a},
		{rule(api.ProofAndR, hyp(1)), and(b, c)},
		{rule(api.ProofAndL, rule(api.ProofAndR, hyp(1))), b},
		{rule(api.ProofAndR, rule(api.ProofAndR, hyp(1))), c},
		{impI(b, hyp(0)), imp(b, b)}, // the chapter's example of chapter 10
		{impI(b, hyp(1)), imp(b, a)},
		{impI(b, impI(c, andI(hyp(0), hyp(1)))), imp(b, imp(c, and(c, b)))},
		{impI(eq(id(v(0)), zero), hyp(0)), imp(eq(id(v(0)), zero), eq(id(v(0)), zero))}, // as it stands, not in normal form
		{rule(api.ProofImpE, hyp(2), hyp(0)), b},
		{rule(api.ProofImpE, hyp(4), hyp(3)), c}, // matching takes steps on both sides
		{rule(api.ProofImpE, impI(anything(), refl(zero)), witness(v(0))), eq(zero, zero)},
		{refl(app(v(2), v(0))), eq(app(v(2), v(0)), app(v(2), v(0)))},
		{refl(id(zero)), eq(id(zero), id(zero))},
		{refl(rec(nat, v(0), lam(nat, lam(nat, v(2))), samples.Fold(nat, zero, lam(nat, lam(list, lam(nat, v(2)))), v(1)))), eq(rec(nat, v(0), lam(nat, lam(nat, v(2))), samples.Fold(nat, zero, lam(nat, lam(list, lam(nat, v(2)))), v(1))), rec(nat, v(0), lam(nat, lam(nat, v(2))), samples.Fold(nat, zero, lam(nat, lam(list, lam(nat, v(2)))), v(1))))},
	} {
		k.proves(t, strconv.Itoa(i), q.p, q.want)
	}
}

// P11.2: quantifiers.
func TestQuantifiers(t *testing.T) {
	some := ex(nat, eq(v(0), succ(v(1))))
	k := in(mixed,
		all(nat, all(list, eq(v(1), app(v(4), v(2))))),
		allU(nat, all(list, eq(v(1), app(v(4), v(2))))),
		ex(nat, eq(v(0), app(v(3), v(1)))),
		exU(fun(nat, nat), eq(app(v(0), v(1)), app(v(3), v(1)))))
	twice := eq(app(v(2), app(v(2), v(0))), app(v(2), app(v(2), v(0))))
	for i, q := range []struct {
		p    api.Proof
		want api.Formula
		uses []int
	}{
		{allIs(1, refl(v(0))), all(nat, eq(v(0), v(0))), nil}, // the chapter's example
		{under(api.ProofAllI, fun(nat, nat), refl(app(v(0), v(1)))), all(fun(nat, nat), eq(app(v(0), v(1)), app(v(0), v(1)))), nil},
		{under(api.ProofAllUI, list, refl(v(1))), allU(list, eq(v(1), v(1))), nil},
		{at(api.ProofAllE, succ(v(0)), hyp(3)), all(list, eq(succ(v(1)), app(v(3), v(1)))), nil},
		{at(api.ProofAllE, cons(v(0), v(1)), at(api.ProofAllE, id(v(0)), hyp(3))), eq(id(v(0)), app(v(2), v(0))), nil}, // no steps
		{at(api.ProofAllUE, succ(v(0)), hyp(2)), all(list, eq(succ(v(1)), app(v(3), v(1)))), nil},
		{at(api.ProofAllE, app(v(2), v(0)), allIs(1, refl(app(v(3), v(0))))), twice, nil},
		{having(api.ProofExI, some, succ(v(0)), refl(succ(v(0)))), some, []int{0}},
		{having(api.ProofExI, some, id(succ(v(0))), refl(succ(id(v(0))))), some, []int{0}},
		{having(api.ProofExI, ex(fun(nat, nat), eq(app(v(0), v(1)), v(1))), lam(nat, v(0)), refl(v(0))), ex(fun(nat, nat), eq(app(v(0), v(1)), v(1))), nil},
		{having(api.ProofExUI, exU(nat, eq(v(0), succ(v(1)))), succ(v(0)), refl(succ(v(0)))), exU(nat, eq(v(0), succ(v(1)))), nil},
		{rule(api.ProofExE, hyp(1), hyp(2)), ex(nat, eq(v(0), app(v(3), v(1)))), nil},
		{rule(api.ProofExE, hyp(1), having(api.ProofExI, ex(nat, eq(v(0), app(v(4), v(2)))), v(0), hyp(0))), ex(nat, eq(v(0), app(v(3), v(1)))), nil},
		{rule(api.ProofExUE, hyp(0), having(api.ProofExUI, exU(fun(nat, nat), eq(app(v(0), v(2)), app(v(4), v(2)))), v(0), hyp(0))), exU(fun(nat, nat), eq(app(v(0), v(1)), app(v(3), v(1)))), nil},
		{rule(api.ProofExUE, hyp(0), refl(v(1))), eq(v(0), v(0)), nil},
	} {
		k.proves(t, strconv.Itoa(i), q.p, q.want, q.uses...)
	}
}

// P11.2: conclusions of ExE and ExUE that have the variable only before they are brought to normal form.
func TestVariableInNormalForm(t *testing.T) {
	ignores := func(x, y api.Term) api.Term { return app(lam(nat, above(1, lift(x))), y) } // it becomes the number after x
	for _, kind := range []int{api.ProofExE, api.ProofExUE} {
		k := in(mixed, ex(nat, eq(v(0), v(1))))
		if kind == api.ProofExUE {
			k = in(mixed, exU(nat, eq(v(0), v(1))))
		}
		open := func(p api.Proof) api.Proof { return rule(kind, hyp(0), p) }
		k.proves(t, "gone", open(refl(ignores(v(1), v(0)))), eq(succ(v(0)), succ(v(0))))
		k.proves(t, "all terms are in normal form", open(andI(refl(id(v(1))), refl(ignores(zero, v(0))))), and(eq(v(0), v(0)), eq(num(1), num(1))))
		k.proves(t, "only if it occurs", open(andI(refl(id(v(1))), refl(zero))), and(eq(id(v(0)), id(v(0))), eq(zero, zero)))
		k.proves(t, "below quantifiers", open(allIs(2, refl(ignores(v(0), v(2))))), all(nat, all(nat, eq(succ(v(0)), succ(v(0))))))
		k.proves(t, "below functions", open(refl(app(lam(nat, lam(nat, succ(v(0)))), v(0), v(1)))), eq(succ(v(0)), succ(v(0))))
		k.proves(t, "in a premise", open(impI(eq(ignores(zero, v(0)), v(1)), refl(v(1)))), imp(eq(num(1), v(0)), eq(v(0), v(0))))
		k.proves(t, "bound variables are others", open(allIs(1, refl(v(0)))), all(nat, eq(v(0), v(0))))
		k.proves(t, "bound in functions", open(refl(id(v(1)))), eq(id(v(0)), id(v(0))))
		k.refuses(t, "left", open(refl(v(0))), api.ErrScope)
		k.refuses(t, "left below quantifiers", open(allIs(2, refl(v(2)))), api.ErrScope)
		k.refuses(t, "left below functions", open(refl(rec(nat, zero, lam(nat, lam(nat, v(2))), v(1)))), api.ErrScope)
		k.refuses(t, "left in normal form", open(refl(app(lam(nat, v(0)), v(0)))), api.ErrScope)
		k.refuses(t, "left on one side", open(rewrite(eq(v(0), v(1)), hyp(0), refl(id(v(0))))), api.ErrScope)
		k.refuses(t, "left in a premise", open(impI(eq(v(0), v(1)), refl(v(1)))), api.ErrScope)
		// Normal forms come before the question whether the variable is left.
		exact, more := over(333), id(over(333))
		gone, left := ignores(zero, v(0)), v(0)
		k.proves(t, "as many steps as may be", open(andI(refl(exact), refl(gone))), and(eq(num(333), num(333)), eq(num(1), num(1))))
		k.proves(t, "each term has its own steps", open(andI(refl(exact), andI(refl(exact), refl(gone)))), and(eq(num(333), num(333)), and(eq(num(333), num(333)), eq(num(1), num(1)))))
		k.refuses(t, "one more step", open(andI(refl(more), refl(gone))), api.ErrSteps)
		k.refuses(t, "one more step behind", open(andI(refl(gone), refl(more))), api.ErrSteps)
		k.refuses(t, "one more step, and left", open(andI(refl(left), refl(more))), api.ErrSteps)
		k.proves(t, "more steps where none are asked for", open(refl(more)), eq(more, more))
		huge := app(lam(nat, app(app(lam(nat, lam(nat, v(0))), v(0)), num(1))), num(1))
		k.proves(t, "steps that make terms smaller", open(andI(refl(huge), refl(gone))), and(eq(num(1), num(1)), eq(num(1), num(1))))
	}
}

// lift returns a term below one more function.
func lift(x api.Term) api.Term { return samples.Up(x, 0) }

// P11.2: inductions.
func TestInductions(t *testing.T) {
	plus := func(a, b api.Term) api.Term { return rec(nat, a, lam(nat, lam(nat, succ(v(0)))), b) }
	k := in(mixed, eq(v(0), zero))
	left := eq(plus(zero, v(0)), v(0)) // 0 + x = x
	step := rewrite(eq(succ(plus(zero, v(1))), succ(v(0))), hyp(0), refl(succ(plus(zero, v(0)))))
	k.proves(t, "Ind", having(api.ProofInd, left, v(0), refl(zero), step), left)
	k.proves(t, "Ind of a term", having(api.ProofInd, left, app(v(2), v(0)), refl(zero), step), eq(plus(zero, app(v(2), v(0))), app(v(2), v(0))))
	k.proves(t, "Ind with free variables", having(api.ProofInd, eq(plus(v(1), v(0)), plus(v(1), v(0))), num(3), refl(plus(v(0), zero)), refl(plus(v(1), succ(v(0))))), eq(plus(v(0), num(3)), plus(v(0), num(3))))
	k.proves(t, "Ind below a quantifier", having(api.ProofInd, all(nat, eq(v(1), v(1))), v(0), allIs(1, refl(zero)), allIs(1, refl(succ(v(1))))), all(nat, eq(v(1), v(1))))
	k.proves(t, "Ind with its hypothesis", having(api.ProofInd, imp(eq(v(0), v(0)), eq(v(1), zero)), v(0), impI(eq(zero, zero), hyp(1)), impI(eq(succ(v(0)), succ(v(0))), rule(api.ProofImpE, hyp(1), refl(v(0))))), imp(eq(v(0), v(0)), eq(v(0), zero)))

	length := func(l api.Term) api.Term {
		return samples.Fold(nat, zero, lam(nat, lam(list, lam(nat, succ(v(0))))), l)
	}
	sum := func(l api.Term) api.Term {
		return samples.Fold(nat, zero, lam(nat, lam(list, lam(nat, plus(v(0), v(2))))), l)
	}
	k.proves(t, "ListInd", having(api.ProofListInd, eq(length(v(0)), length(v(0))), v(1), refl(zero), refl(length(cons(v(1), v(0))))), eq(length(v(1)), length(v(1))))
	// The head is Var 1, the tail Var 0.
	k.proves(t, "ListInd with the head", having(api.ProofListInd, eq(sum(v(0)), sum(v(0))), nums(2, 1), refl(zero), refl(plus(sum(v(0)), v(1)))), eq(sum(nums(2, 1)), sum(nums(2, 1))))
	k.refuses(t, "ListInd with another head", having(api.ProofListInd, eq(sum(v(0)), sum(v(0))), nums(2, 1), refl(zero), refl(plus(sum(v(0)), v(2)))), api.ErrMatch)
	// From the formula at the tail: 0 + length = length.
	f := eq(plus(zero, length(v(0))), length(v(0)))
	more := rewrite(eq(succ(plus(zero, length(v(1)))), succ(v(0))), hyp(0), refl(succ(plus(zero, length(v(0))))))
	k.proves(t, "ListInd with its hypothesis", having(api.ProofListInd, f, v(1), refl(zero), more), eq(plus(zero, length(v(1))), length(v(1))))
	k.proves(t, "ListInd with free variables", having(api.ProofListInd, eq(v(1), zero), v(1), hyp(0), hyp(1)), eq(v(0), zero))
	k.refuses(t, "ListInd with another hypothesis", having(api.ProofListInd, f, v(1), refl(zero), hyp(0)), api.ErrMatch)
}

// P11.2: Subst and Choice.
func TestSubstAndChoice(t *testing.T) {
	k := in(mixed, eq(v(0), app(v(2), zero)), all(nat, eq(v(0), v(1))), all(nat, ex(list, imp(eq(v(1), v(2)), all(unit, eq(app(v(5), v(2)), v(3)))))))
	k.proves(t, "Subst", rewrite(eq(v(0), v(1)), hyp(2), refl(v(0))), eq(app(v(2), zero), v(0)))
	k.proves(t, "Subst in other places", rewrite(eq(v(1), v(0)), hyp(2), refl(v(0))), eq(v(0), app(v(2), zero)))
	k.proves(t, "Subst in no place", rewrite(all(nat, eq(v(0), v(2))), hyp(2), hyp(1)), all(nat, eq(v(0), v(1))))
	k.proves(t, "Subst below a quantifier", rewrite(all(nat, eq(v(0), v(1))), hyp(2), hyp(1)), all(nat, eq(v(0), app(v(3), zero))))
	k.proves(t, "Subst after steps", rewrite(eq(v(0), id(v(1))), hyp(2), refl(id(v(0)))), eq(app(v(2), zero), id(v(0))))
	k.proves(t, "Subst of what is the same", rewrite(eq(v(0), num(2)), refl(num(2)), refl(num(2))), eq(num(2), num(2)))
	chosen := ex(fun(nat, list), all(nat, imp(eq(v(0), v(2)), all(unit, eq(app(v(5), v(1)), v(3))))))
	k.proves(t, "Choice", rule(api.ProofChoice, hyp(0)), chosen)
	m := in(mixed, all(nat, ex(list, eq(samples.Fold(nat, v(1), lam(nat, lam(list, lam(nat, v(4)))), v(0)), v(2)))))
	m.proves(t, "Choice with the value", rule(api.ProofChoice, hyp(0)), ex(fun(nat, list), all(nat, eq(samples.Fold(nat, v(0), lam(nat, lam(list, lam(nat, v(3)))), app(v(1), v(0))), v(2)))))
	m.proves(t, "Choice of what was proved", rule(api.ProofChoice, allIs(1, witness(v(0)))), ex(fun(nat, nat), all(nat, eq(app(v(1), v(0)), app(v(1), v(0))))))
}

// P11.2: uses, of proofs with and without content.
func TestUses(t *testing.T) {
	plain := refl(v(0)) // no content
	k := in(nats(4), and(anything(), falsum()), imp(falsum(), anything()), all(nat, anything()), exU(nat, falsum()), allU(nat, anything()), exU(nat, anything()), anything())
	k.lemmas = []api.Formula{falsum()}
	content := exU(nat, anything())
	for i, q := range []struct {
		p    api.Proof
		want []int
	}{
		{hyp(0), nil},
		{witness(v(0)), []int{0}},
		{witness(app(lam(nat, v(3)), v(1))), []int{1, 2}}, // as it stands, not in normal form
		{witness(lam2(v(3))), []int{1}},
		{having(api.ProofExI, ex(nat, anything()), v(3), witness(v(1))), []int{1, 3}},
		{having(api.ProofExUI, content, v(3), witness(v(1))), []int{1}},
		{having(api.ProofExUI, exU(nat, falsum()), v(3), at(api.ProofAllE, v(2), allIs(1, lemma(0)))), nil},
		{andI(witness(v(2)), witness(v(0))), []int{0, 2}},
		{andI(plain, witness(v(1))), []int{1}},
		{andI(plain, plain), nil},
		{rule(api.ProofAndL, andI(witness(v(2)), witness(v(0)))), []int{0, 2}},
		{rule(api.ProofAndR, andI(witness(v(2)), witness(v(0)))), []int{0, 2}},
		{rule(api.ProofAndR, andI(witness(v(2)), plain)), nil},
		{impI(falsum(), witness(v(2))), []int{2}},
		{impI(anything(), plain), nil},
		{rule(api.ProofImpE, impI(anything(), witness(v(1))), witness(v(3))), []int{1, 3}},
		{rule(api.ProofImpE, impI(anything(), plain), witness(v(3))), nil},
		{rule(api.ProofImpE, impI(eq(v(0), v(0)), witness(v(1))), plain), []int{1}},
		{allIs(1, witness(v(0))), nil},
		{allIs(1, witness(v(2))), []int{1}},
		{allIs(2, andI(witness(v(1)), witness(v(5)))), []int{3}},
		{allIs(1, plain), nil},
		{under(api.ProofAllUI, nat, witness(v(2))), []int{1}},
		{under(api.ProofAllUI, nat, plain), nil},
		{at(api.ProofAllE, v(2), hyp(4)), []int{2}},
		{at(api.ProofAllE, v(2), allIs(1, witness(v(2)))), []int{1, 2}},
		{at(api.ProofAllE, v(2), allIs(1, plain)), nil},
		{at(api.ProofAllUE, v(2), hyp(2)), nil},
		{at(api.ProofAllUE, v(2), under(api.ProofAllUI, nat, witness(v(2)))), []int{1}},
		{rule(api.ProofExE, witness(v(3)), witness(v(0))), []int{3}},
		{rule(api.ProofExE, witness(v(3)), witness(v(2))), []int{1, 3}},
		{rule(api.ProofExE, witness(v(3)), refl(v(1))), nil},
		{rule(api.ProofExE, hyp(0), witness(v(1))), []int{0}},
		{rule(api.ProofExUE, hyp(3), witness(v(2))), []int{1}},
		{rule(api.ProofExUE, hyp(3), refl(v(1))), nil},
		{rule(api.ProofExUE, having(api.ProofExUI, content, v(0), witness(v(3))), witness(v(2))), []int{1, 3}},
		{rule(api.ProofExUE, having(api.ProofExUI, content, v(0), witness(v(3))), hyp(0)), []int{3}},
		{rule(api.ProofExUE, having(api.ProofExUI, content, v(0), witness(v(3))), refl(v(1))), nil},
		{having(api.ProofInd, anything(), v(3), witness(v(1)), witness(v(3))), []int{1, 2, 3}},
		{having(api.ProofInd, anything(), zero, witness(zero), witness(v(0))), nil},
		{having(api.ProofInd, anything(), v(3), hyp(0), hyp(0)), []int{3}},
		{having(api.ProofInd, eq(v(0), v(0)), v(3), refl(zero), refl(succ(v(0)))), nil},
		{having(api.ProofListInd, anything(), nums(1), witness(v(1)), witness(v(4))), []int{1, 2}},
		{having(api.ProofListInd, anything(), none, witness(zero), witness(v(1))), nil},
		{having(api.ProofListInd, anything(), cons(v(3), none), hyp(0), hyp(0)), []int{3}},
		{having(api.ProofListInd, eq(zero, zero), cons(v(3), none), refl(zero), refl(zero)), nil},
		{plain, nil},
		{rewrite(anything(), refl(v(3)), witness(v(1))), []int{1}}, // not those of the equation
		{rewrite(eq(v(0), v(0)), refl(v(3)), refl(v(3))), nil},
		{rule(api.ProofChoice, allIs(1, witness(v(0)))), nil},
		{rule(api.ProofChoice, allIs(1, witness(v(3)))), []int{2}},
	} {
		k.hasUses(t, strconv.Itoa(i), q.p, q.want...)
	}
	in(nats(16)).hasUses(t, "all of a context", andI(witness(v(15)), andI(witness(v(0)), witness(v(7)))), 0, 7, 15)
	in(nats(14)).hasUses(t, "below ListInd", having(api.ProofListInd, anything(), none, witness(v(13)), witness(v(15))), 13)
}

// lam2 returns a number made by a function below which a variable stands.
func lam2(x api.Term) api.Term { return app(lam(nat, lam(nat, x)), zero, zero) }

// hasUses fails the test if a proof has an error, or other uses.
func (k known) hasUses(t *testing.T, what string, p api.Proof, want ...int) {
	t.Helper()
	got, err := infer(k, p)
	must(t, what, []any{err, append([]int{}, got.Uses...)}, []any{api.OK, append([]int{}, want...)})
}

// P11.2: what AllUI and ExUE ask of uses.
func TestErrUse(t *testing.T) {
	k := in(nats(4), all(nat, anything()), exU(nat, anything()))
	for i, q := range []struct {
		p    api.Proof
		want api.Errno
	}{
		{under(api.ProofAllUI, nat, witness(v(0))), api.ErrUse},
		{under(api.ProofAllUI, nat, andI(witness(v(3)), witness(v(0)))), api.ErrUse},
		{under(api.ProofAllUI, nat, at(api.ProofAllE, v(0), hyp(1))), api.ErrUse},
		{under(api.ProofAllUI, nat, at(api.ProofAllE, id(v(0)), hyp(1))), api.ErrUse},
		{under(api.ProofAllUI, nat, having(api.ProofInd, anything(), v(0), hyp(1), hyp(0))), api.ErrMatch},
		{under(api.ProofAllUI, nat, having(api.ProofInd, anything(), v(0), witness(zero), hyp(0))), api.ErrUse},
		{under(api.ProofAllUI, list, having(api.ProofListInd, anything(), v(0), witness(zero), hyp(0))), api.ErrUse},
		{under(api.ProofAllUI, nat, allIs(1, witness(v(1)))), api.ErrUse},
		{under(api.ProofAllUI, nat, rewrite(anything(), refl(v(0)), witness(v(0)))), api.ErrUse},
		{under(api.ProofAllUI, nat, rewrite(anything(), refl(v(0)), witness(v(1)))), api.OK},
		{under(api.ProofAllUI, nat, witness(v(1))), api.OK},
		{under(api.ProofAllUI, nat, refl(v(0))), api.OK},
		{under(api.ProofAllUI, nat, impI(anything(), refl(v(0)))), api.OK},
		{under(api.ProofAllUI, nat, rule(api.ProofAndR, andI(witness(v(0)), refl(v(0))))), api.OK},
		{under(api.ProofAllUI, nat, having(api.ProofExUI, exU(nat, anything()), v(0), witness(v(1)))), api.OK},
		{under(api.ProofAllUI, nat, having(api.ProofExUI, exU(nat, anything()), v(1), witness(v(0)))), api.ErrUse},
		{rule(api.ProofExUE, hyp(0), witness(v(0))), api.ErrUse},
		{rule(api.ProofExUE, hyp(0), andI(refl(v(1)), witness(v(0)))), api.ErrUse},
		{rule(api.ProofExUE, hyp(0), at(api.ProofAllE, v(0), hyp(2))), api.ErrUse},
		{rule(api.ProofExUE, hyp(0), witness(v(1))), api.OK},
		{rule(api.ProofExUE, hyp(0), hyp(0)), api.OK}, // what has content is not what is hidden
		{rule(api.ProofExUE, hyp(0), andI(refl(v(0)), witness(v(0)))), api.ErrScope},
		{rule(api.ProofExUE, hyp(0), andI(refl(app(lam(nat, zero), v(0))), witness(v(0)))), api.ErrUse},
		{rule(api.ProofExUE, hyp(0), andI(refl(app(lam(nat, id(over(333))), v(0))), witness(v(0)))), api.ErrSteps},
		{rule(api.ProofExUE, hyp(0), having(api.ProofExI, ex(nat, eq(v(0), v(0))), app(lam(nat, zero), v(0)), refl(zero))), api.ErrUse},
	} {
		_, err := infer(k, q.p)
		must(t, strconv.Itoa(i), err, q.want)
	}
}
