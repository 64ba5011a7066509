package kernel_test

import (
	"fmt"
	"testing"

	"proofprograms/api"
)

// A binder is a proof with a part that some variables and hypotheses are bound for; last is that part.
type binder struct {
	name       string
	p          api.Proof
	vars, hyps int
}

// binders returns a proof of each kind that binds something. Lemma 0 is a formula Ex, Lemma 1 one ExU.
func binders(part api.Proof) []binder {
	same := eq(zero, zero)
	return []binder{
		{"ImpI", impI(falsum(), part), 0, 1},
		{"AllI", under(api.ProofAllI, nat, part), 1, 0},
		{"AllUI", under(api.ProofAllUI, nat, part), 1, 0},
		{"ExE", rule(api.ProofExE, lemma(0), part), 1, 1},
		{"ExUE", rule(api.ProofExUE, lemma(1), part), 1, 1},
		{"Ind", having(api.ProofInd, same, zero, refl(zero), part), 1, 1},
		{"ListInd", having(api.ProofListInd, same, none, refl(zero), part), 2, 1},
	}
}

// full returns a sequent with so many variables and hypotheses, and the lemmas of binders.
func full(vars, hyps int) known {
	k := in(nats(vars), times(hyps, falsum())...)
	k.lemmas = []api.Formula{anything(), exU(nat, falsum()), eq(zero, zero)}
	return k
}

// P11.2: ErrLimit where a rule binds too much, before the errors of the part that it binds for.
func TestBinding(t *testing.T) {
	for vars := range 17 {
		for hyps := range 17 {
			k := full(vars, hyps)
			for _, b := range binders(last) {
				want := api.ErrLemma
				if vars+b.vars > api.MaxContext || hyps+b.hyps > api.MaxHyps {
					want = api.ErrLimit
				}
				k.refuses(t, fmt.Sprint(b.name, " in ", vars, ", ", hyps), b.p, want)
			}
			for _, b := range binders(lemma(2)) {
				_, err := infer(k, b.p)
				must(t, fmt.Sprint(b.name, " alone in ", vars, ", ", hyps), err == api.ErrLimit, vars+b.vars > api.MaxContext || hyps+b.hyps > api.MaxHyps)
			}
		}
	}
	for _, a := range binders(last) {
		for _, b := range binders(a.p) {
			in := func(vars, hyps int, want api.Errno) {
				full(vars, hyps).refuses(t, fmt.Sprint(a.name, " below ", b.name, " in ", vars, ", ", hyps), b.p, want)
			}
			vars, hyps := 16-a.vars-b.vars, 16-a.hyps-b.hyps
			in(vars, hyps, api.ErrLemma)
			if a.vars+b.vars > 0 {
				in(vars+1, hyps, api.ErrLimit)
			}
			if a.hyps+b.hyps > 0 {
				in(vars, hyps+1, api.ErrLimit)
			}
		}
	}
	empty := in(nil)
	empty.proves(t, "16 variables", allIs(16, refl(v(15))), alls(16, eq(v(15), v(15))))
	empty.refuses(t, "17 variables", allIs(17, refl(v(15))), api.ErrLimit)
	// What is bound in one part is not bound in the next one.
	two := full(15, 15)
	p := andI(impI(falsum(), hyp(15)), andI(allIs(1, refl(v(15))), impI(falsum(), allIs(1, refl(v(15))))))
	two.proves(t, "part by part", p, and(imp(falsum(), falsum()), and(all(nat, eq(v(15), v(15))), imp(falsum(), all(nat, eq(v(15), v(15)))))))
}

// P11.2: what comes before the limit, and what comes behind it.
func TestAroundTheLimit(t *testing.T) {
	k := full(16, 16)
	for i, q := range []struct {
		p    api.Proof
		want api.Errno
	}{
		{impI(eq(v(16), zero), api.Proof{}), api.ErrForm},
		{impI(eq(v(16), zero), last), api.ErrScope},
		{impI(eq(none, zero), last), api.ErrType},
		{rule(api.ProofExE, hyp(16), last), api.ErrHyp},
		{rule(api.ProofExE, hyp(15), last), api.ErrShape},
		{rule(api.ProofExUE, lemma(0), last), api.ErrShape},
		{having(api.ProofInd, eq(v(17), zero), zero, lemma(2), last), api.ErrScope},
		{having(api.ProofInd, eq(v(16), zero), none, lemma(2), last), api.ErrType},
		{having(api.ProofInd, eq(v(16), zero), zero, hyp(16), last), api.ErrHyp},
		{having(api.ProofInd, eq(v(16), zero), zero, lemma(2), last), api.ErrMatch},
		{having(api.ProofListInd, eq(zero, zero), none, hyp(0), last), api.ErrMatch},
		{having(api.ProofListInd, eq(zero, zero), none, lemma(2), last), api.ErrLimit},
		{andI(allIs(1, last), hyp(16)), api.ErrLimit},
		{andI(hyp(16), allIs(1, last)), api.ErrHyp},
	} {
		k.refuses(t, fmt.Sprint(i), q.p, q.want)
	}
	// Rules that bind nothing have no limit, and neither has a variable of a formula or of a term.
	some, inner := ex(nat, eq(v(1), v(17))), having(api.ProofExI, ex(nat, eq(v(16), v(16))), zero, refl(v(15)))
	k.lemmas = append(k.lemmas, all(nat, anything()), allU(nat, anything()), imp(eq(zero, zero), falsum()), all(list, eq(zero, zero)))
	for name, p := range map[string]api.Proof{
		"AndI":   rule(api.ProofAndL, rule(api.ProofAndR, andI(hyp(15), andI(lemma(2), hyp(0))))),
		"ImpE":   rule(api.ProofImpE, lemma(5), lemma(2)),
		"AllE":   at(api.ProofAllE, v(15), lemma(3)),
		"AllUE":  at(api.ProofAllUE, v(15), lemma(4)),
		"ExI":    having(api.ProofExI, ex(nat, some), v(15), inner),
		"ExUI":   having(api.ProofExUI, exU(nat, some), v(15), inner),
		"Subst":  rewrite(all(list, eq(zero, zero)), refl(v(15)), lemma(6)),
		"Refl":   refl(app(lam(nat, app(lam(nat, v(17)), zero)), zero)),
		"Choice": rule(api.ProofChoice, lemma(3)),
	} {
		k.orProves(t, name, p, api.OK)
	}
}

// P11.2: the formulas of Ind, ListInd and Subst, which stand in one more type than a context has.
func TestOneTypeMore(t *testing.T) {
	k := known{[]api.Formula{falsum()}, api.Sequent{Types: append([]api.Type{fun(nat, nat), list}, nats(14)...)}}
	for i, q := range []struct {
		f    api.Formula // for numbers and for lists, that variable is not used as either
		want api.Errno
	}{
		{eq(v(1), v(14)), api.ErrLemma},
		{eq(app(v(16), v(1)), length(v(15))), api.ErrLemma},
		{all(nat, eq(app(v(17), v(0)), v(2))), api.ErrLemma},
		{all(nat, ex(list, allU(unit, exU(nat, eq(app(v(20), v(5)), length(v(2))))))), api.ErrLemma},
		{eq(app(lam(nat, app(v(17), v(2))), zero), app(lam(nat, lam(nat, app(v(18), v(0)))), zero, v(1))), api.ErrLemma},
		{alls(4092, eq(v(4093), succ(v(4106)))), api.ErrLemma}, // as many nodes as may be
		{eq(v(1), num(4093)), api.ErrLemma},
		{and(eq(v(1), zero), alls(4086, eq(v(0), v(1)))), api.ErrLemma},
		{eq(v(17), zero), api.ErrScope},
		{eq(zero, v(17)), api.ErrScope},
		{eq(v(greatest), zero), api.ErrScope},
		{all(nat, eq(v(18), zero)), api.ErrScope},
		{all(nat, eq(v(17), zero)), api.ErrType},
		{alls(4092, eq(v(4093), succ(v(4109)))), api.ErrScope},
		{alls(4092, eq(v(4093), succ(v(4107)))), api.ErrType},
		{eq(v(16), v(17)), api.ErrType},
		{eq(v(17), v(16)), api.ErrScope},
		{eq(succ(v(15)), v(greatest)), api.ErrType}, // the first error, although an Index is too large for formula.Put
		{and(eq(v(15), zero), eq(v(greatest), zero)), api.ErrType},
		{and(eq(v(1), v(greatest)), eq(v(15), zero)), api.ErrScope},
		{all(nat, eq(app(v(17), v(16)), v(greatest))), api.ErrType},
		{eq(app(tooLong, zero), v(greatest)), api.ErrSize},
		{eq(app(v(15), zero), tooLong), api.ErrType},
	} {
		for _, p := range []api.Proof{
			having(api.ProofInd, q.f, zero, last, hyp(0)),
			having(api.ProofListInd, q.f, none, last, hyp(0)),
			rewrite(q.f, last, hyp(0)),
		} {
			k.refuses(t, fmt.Sprint(i, " of kind ", p.Kind), p, q.want)
		}
	}
	number, lists := eq(succ(v(0)), v(1)), eq(length(v(0)), v(1))
	k.refuses(t, "Ind", having(api.ProofInd, number, zero, last, last), api.ErrLemma)
	k.refuses(t, "Subst", rewrite(number, last, last), api.ErrLemma)
	k.refuses(t, "ListInd", having(api.ProofListInd, lists, none, last, last), api.ErrLemma)
	k.refuses(t, "Ind of a list", having(api.ProofInd, lists, zero, last, last), api.ErrType)
	k.refuses(t, "Subst of a list", rewrite(lists, last, last), api.ErrType)
	k.refuses(t, "ListInd of a number", having(api.ProofListInd, number, none, last, last), api.ErrType)
	k.proves(t, "Subst with all types", rewrite(eq(v(0), app(v(16), v(1))), refl(app(v(15), v(0))), refl(app(v(15), v(0)))), eq(app(v(15), v(0)), app(v(15), v(0))))
}

// P11.2: formulas with just as many nodes as may be, and with more.
func TestSizes(t *testing.T) {
	k := in(nats(1))
	k.lemmas = []api.Formula{large(2047), large(2048), large(4095), large(4096), all(nat, eq(v(0), succ(v(0)))), allU(nat, eq(v(0), succ(v(0)))), large(4091), all(list, falsum())}
	k.proves(t, "AndI", andI(lemma(0), lemma(1)), and(large(2047), large(2048)))
	k.refuses(t, "AndI, more", andI(lemma(1), lemma(1)), api.ErrSize)
	k.refuses(t, "AndI, both parts first", andI(lemma(3), last), api.ErrLemma)
	k.refuses(t, "AndI, before what follows", rule(api.ProofAndL, andI(lemma(3), lemma(3))), api.ErrSize)
	k.refuses(t, "AndI, before another part", andI(andI(lemma(3), lemma(3)), last), api.ErrSize)
	k.proves(t, "ImpI", impI(large(2047), lemma(1)), imp(large(2047), large(2048)))
	k.refuses(t, "ImpI, more", impI(large(2048), lemma(1)), api.ErrSize)
	k.refuses(t, "ImpI, part first", impI(large(4096), andI(lemma(3), last)), api.ErrLemma)
	k.proves(t, "AllI", allIs(1, lemma(2)), all(nat, large(4095)))
	k.refuses(t, "AllI, more", allIs(1, lemma(3)), api.ErrSize)
	k.proves(t, "AllUI", under(api.ProofAllUI, nat, lemma(2)), allU(nat, large(4095)))
	k.refuses(t, "AllUI, more", under(api.ProofAllUI, nat, lemma(3)), api.ErrSize)
	k.refuses(t, "AllUI, uses first", under(api.ProofAllUI, nat, andI(lemma(6), witness(v(0)))), api.ErrUse)
	k.refuses(t, "AllUI, other uses", under(api.ProofAllUI, nat, andI(lemma(6), witness(v(1)))), api.ErrSize)
	for i, kind := range []int{api.ProofAllE, api.ProofAllUE} {
		k.proves(t, "AllE", at(kind, num(2046), lemma(4+i)), eq(num(2046), num(2047)))
		k.refuses(t, "AllE, more", at(kind, num(2047), lemma(4+i)), api.ErrSize)
		k.refuses(t, "AllE, part first", at(kind, num(4095), last), api.ErrLemma)
	}
	k.refuses(t, "AllE, type first", at(api.ProofAllE, num(4095), lemma(7)), api.ErrType)
	k.proves(t, "Refl", refl(num(2046)), eq(num(2046), num(2046)))
	k.refuses(t, "Refl, more", refl(num(2047)), api.ErrSize)
	k.refuses(t, "Refl, type first", refl(pair(num(2040), zero)), api.ErrType)
}

// P11.2: what ExI and ExUI are compared with may be too large: after the errors of the part, before the comparison.
func TestWitnessSizes(t *testing.T) {
	k := in(nil, eq(num(2046), num(2047)))
	for _, q := range [][2]int{{api.ProofExI, api.FormEx}, {api.ProofExUI, api.FormExU}} {
		f := quant(q[1], nat, eq(v(0), succ(v(0))))
		k.proves(t, "as large as may be", having(q[0], f, num(2046), hyp(0)), f)
		k.refuses(t, "more", having(q[0], f, num(2047), hyp(0)), api.ErrSize)
		k.refuses(t, "part first", having(q[0], f, num(2047), last), api.ErrLemma)
		k.refuses(t, "type first", having(q[0], f, pair(num(2047), zero), last), api.ErrType)
		whole := quant(q[1], nat, eq(zero, num(4092)))
		k.refuses(t, "the formula itself is as large as may be", having(q[0], whole, num(4095), refl(zero)), api.ErrMatch)
	}
}

// P11.2: conclusions of ExE and ExUE that are brought to normal form may become too large.
func TestOpeningSizes(t *testing.T) {
	binary := fun(nat, fun(nat, nat))
	for i, kind := range []int{api.ProofExE, api.ProofExUE} {
		k := in([]api.Type{binary}, ex(nat, falsum()), exU(nat, falsum()))
		// grows becomes a term with 2*nodes + 3 nodes, without the variable 0.
		grows := func(nodes int) api.Term {
			return app(lam(nat, app(v(2), v(0), v(0))), app(lam(nat, num(nodes-1)), v(0)))
		}
		open := func(f api.Formula, p api.Proof) api.Proof { return rule(kind, hyp(1-i), impI(f, p)) }
		grown := app(v(0), num(2042), num(2042))
		k.proves(t, "as large as may be", open(eq(succ(grows(2043)), zero), refl(zero)), imp(eq(succ(grown), zero), eq(zero, zero)))
		k.refuses(t, "one more", open(eq(succ(grows(2043)), num(1)), refl(zero)), api.ErrSize)
		k.refuses(t, "a larger term", open(eq(grows(2047), zero), refl(zero)), api.ErrSize)
		k.refuses(t, "before the variable that is left", open(eq(grows(2047), v(0)), refl(zero)), api.ErrSize)
		k.refuses(t, "the variable that is left before the whole formula", open(eq(succ(grows(2043)), succ(v(0))), refl(zero)), api.ErrScope)
		k.refuses(t, "steps of a later term before the whole formula", open(eq(succ(grows(2043)), id(over(333))), refl(zero)), api.ErrSteps)
		want := api.ErrSize
		if kind == api.ProofExUE {
			want = api.ErrUse
		}
		k.refuses(t, "uses before the whole formula", open(eq(succ(grows(2043)), num(1)), witness(v(0))), want)
		k.refuses(t, "other uses", open(eq(succ(grows(2043)), num(1)), witness(zero)), api.ErrSize)
	}
}

// P11.2: what is put into the formulas of inductions and of Subst may make them too large.
func TestInductionSizes(t *testing.T) {
	k := in(nats(1))
	// from returns a proof of a formula whose premise is given.
	from := func(premise api.Formula) api.Proof { return impI(premise, refl(zero)) }
	same := eq(zero, zero)
	f := imp(eq(v(0), succ(v(0))), same)
	induct := func(f api.Formula, x api.Term, p, q api.Proof) api.Proof {
		return having(api.ProofInd, f, x, p, q)
	}
	start, step := from(eq(zero, num(1))), from(eq(succ(v(0)), succ(succ(v(0)))))
	k.proves(t, "Ind", induct(f, num(2044), start, step), imp(eq(num(2044), num(2045)), same))
	k.refuses(t, "Ind, more", induct(f, num(2045), start, step), api.ErrSize)
	k.refuses(t, "Ind, both parts first", induct(f, num(4095), start, last), api.ErrLemma)
	k.refuses(t, "Ind, and what they are compared with", induct(f, num(4095), start, refl(zero)), api.ErrMatch)
	// At the next number there is one node more.
	g := func(n int) api.Formula { return imp(eq(v(0), num(n)), same) }
	k.proves(t, "Ind at the next number", induct(g(4088), v(0), from(eq(zero, num(4088))), from(eq(succ(v(0)), num(4088)))), g(4088))
	k.refuses(t, "Ind at the next number, more", induct(g(4089), v(0), from(eq(zero, num(4089))), refl(zero)), api.ErrSize)
	k.refuses(t, "Ind at the next number, parts first", induct(g(4089), v(0), from(eq(zero, num(4089))), last), api.ErrLemma)
	k.refuses(t, "Ind at the next number, first part first", induct(g(4089), v(0), refl(zero), last), api.ErrMatch)

	h := func(n int) api.Formula { return imp(eq(length(v(0)), num(n)), same) }
	lists := func(n int, x api.Term, q api.Proof) api.Proof {
		return having(api.ProofListInd, h(n), x, from(eq(length(none), num(n))), q)
	}
	k.proves(t, "ListInd", lists(4080, none, from(eq(length(cons(v(1), v(0))), num(4080)))), imp(eq(length(none), num(4080)), same))
	k.refuses(t, "ListInd, more", lists(4081, none, refl(zero)), api.ErrSize)
	k.refuses(t, "ListInd, parts first", lists(4081, none, last), api.ErrLemma)
	k.proves(t, "ListInd of a list", lists(4079, cons(num(1), none), from(eq(length(cons(v(1), v(0))), num(4079)))), imp(eq(length(nums(1)), num(4079)), same))
	k.refuses(t, "ListInd of a longer list", lists(4079, cons(num(2), none), from(eq(length(cons(v(1), v(0))), num(4079)))), api.ErrSize)

	m := in(nil, eq(zero, num(2044)), eq(zero, num(2045)), eq(num(2044), zero), eq(num(2045), zero))
	there, here := from(eq(zero, num(1))), from(eq(num(2044), num(2045)))
	m.proves(t, "Subst", rewrite(f, hyp(3), there), imp(eq(num(2044), num(2045)), same))
	m.refuses(t, "Subst, more", rewrite(f, hyp(2), there), api.ErrSize)
	m.refuses(t, "Subst, parts first", rewrite(f, hyp(2), last), api.ErrLemma)
	m.refuses(t, "Subst, comparison first", rewrite(f, hyp(2), refl(zero)), api.ErrMatch)
	m.proves(t, "Subst at the left side", rewrite(f, hyp(1), here), imp(eq(zero, num(1)), same))
	m.refuses(t, "Subst at the left side, more", rewrite(f, hyp(0), refl(zero)), api.ErrSize)
	m.refuses(t, "Subst at the left side, part first", rewrite(f, hyp(0), last), api.ErrLemma)
}

// P11.2: Choice makes formulas and types larger.
func TestChoiceSizes(t *testing.T) {
	some := func(s, u api.Type, n int) api.Formula { return all(s, ex(u, eq(num(n), v(0)))) }
	chosen := func(s, u api.Type, n int) api.Formula {
		return ex(fun(s, u), all(s, eq(num(n), app(v(1), v(0)))))
	}
	half, more := wide(15, nat), wide(16, nat) // 31 and 33 nodes
	ignored := func(s, u api.Type) api.Formula { return all(s, ex(u, falsum())) }
	k := in(nil, some(nat, nat, 4090), some(nat, nat, 4089), ignored(half, half), ignored(half, more), ignored(more, half))
	k.refuses(t, "more nodes", rule(api.ProofChoice, hyp(4)), api.ErrSize)
	k.proves(t, "as many nodes as may be", rule(api.ProofChoice, hyp(3)), chosen(nat, nat, 4089))
	k.proves(t, "as large a type as may be", rule(api.ProofChoice, hyp(2)), ex(fun(half, half), all(half, falsum())))
	k.refuses(t, "a larger type", rule(api.ProofChoice, hyp(1)), api.ErrSize)
	k.refuses(t, "a larger type of arguments", rule(api.ProofChoice, hyp(0)), api.ErrSize)
}
