package proof_test

import (
	"slices"
	"strconv"
	"testing"

	"proofprograms/api"
	"proofprograms/formula"
	"proofprograms/proof"
	"proofprograms/samples"
	"proofprograms/subst"
)

// below returns, for each kind that binds something in an Arg or a Form, a proof with one of these, and how many variables and hypotheses it binds there.
// The other parts are closed.
func below(p api.Proof) []struct {
	name       string
	p          api.Proof
	vars, hyps int
} {
	return []struct {
		name       string
		p          api.Proof
		vars, hyps int
	}{
		{"AndI, first", andI(p, lemma(0)), 0, 0},
		{"AndI, second", andI(lemma(0), p), 0, 0},
		{"AndL", rule(api.ProofAndL, p), 0, 0},
		{"AndR", rule(api.ProofAndR, p), 0, 0},
		{"ImpI", impI(falsum(), p), 0, 1},
		{"ImpE, first", rule(api.ProofImpE, p, lemma(0)), 0, 0},
		{"ImpE, second", rule(api.ProofImpE, lemma(0), p), 0, 0},
		{"AllI", under(api.ProofAllI, nat, p), 1, 0},
		{"AllE", at(api.ProofAllE, zero, p), 0, 0},
		{"ExI", having(api.ProofExI, falsum(), zero, p), 0, 0},
		{"ExE, first", rule(api.ProofExE, p, lemma(0)), 0, 0},
		{"ExE, second", rule(api.ProofExE, lemma(0), p), 1, 1},
		{"AllUI", under(api.ProofAllUI, nat, p), 1, 0},
		{"AllUE", at(api.ProofAllUE, zero, p), 0, 0},
		{"ExUI", having(api.ProofExUI, falsum(), zero, p), 0, 0},
		{"ExUE, first", rule(api.ProofExUE, p, lemma(0)), 0, 0},
		{"ExUE, second", rule(api.ProofExUE, lemma(0), p), 1, 1},
		{"Ind, first", having(api.ProofInd, falsum(), zero, p, lemma(0)), 0, 0},
		{"Ind, second", having(api.ProofInd, falsum(), zero, lemma(0), p), 1, 1},
		{"ListInd, first", having(api.ProofListInd, falsum(), none, p, lemma(0)), 0, 0},
		{"ListInd, second", having(api.ProofListInd, falsum(), none, lemma(0), p), 2, 1},
		{"Subst, first", rewrite(falsum(), p, lemma(0)), 0, 0},
		{"Subst, second", rewrite(falsum(), lemma(0), p), 0, 0},
		{"Choice", rule(api.ProofChoice, p), 0, 0},
	}
}

// formed returns, for each kind that has a formula, a proof with this one, and how many variables it binds there.
func formed(f api.Formula) map[string]struct {
	p    api.Proof
	vars int
} {
	return map[string]struct {
		p    api.Proof
		vars int
	}{
		"ImpI":    {impI(f, hyp(0)), 0},
		"ExI":     {having(api.ProofExI, f, zero, hyp(0)), 0},
		"ExUI":    {having(api.ProofExUI, f, zero, hyp(0)), 0},
		"Ind":     {having(api.ProofInd, f, zero, hyp(0), hyp(0)), 1},
		"ListInd": {having(api.ProofListInd, f, zero, hyp(0), hyp(0)), 1},
		"Subst":   {rewrite(f, hyp(0), hyp(0)), 1},
	}
}

// termed returns a proof of each kind that has a term, with this one; none of them binds a variable there.
func termed(s api.Term) map[string]api.Proof {
	return map[string]api.Proof{
		"AllE":    at(api.ProofAllE, s, hyp(0)),
		"AllUE":   at(api.ProofAllUE, s, hyp(0)),
		"ExI":     having(api.ProofExI, falsum(), s, hyp(0)),
		"ExUI":    having(api.ProofExUI, falsum(), s, hyp(0)),
		"Ind":     having(api.ProofInd, falsum(), s, hyp(0), hyp(0)),
		"ListInd": having(api.ProofListInd, falsum(), s, hyp(0), hyp(0)),
		"Refl":    refl(s),
	}
}

// mustUses fails the test if a proof has other free variables.
func mustUses(t *testing.T, what string, p api.Proof, want ...int) {
	t.Helper()
	got, err := proof.Uses(p)
	must(t, what+": Uses", []any{got, err}, []any{slices.Clip(want), api.OK})
}

// P10.1: Uses.
func TestUses(t *testing.T) {
	for i, q := range []struct {
		p    api.Proof
		want []int
	}{
		{hyp(3), nil},
		{lemma(3), nil},
		{refl(app(v(3), v(1), v(3))), []int{1, 3}},
		{refl(lam(nat, app(v(0), v(1), v(4)))), []int{0, 3}},
		{impI(all(nat, eq(v(0), v(5))), refl(v(2))), []int{2, 4}},
		{allIs(2, refl(app(v(0), v(1), v(2), v(9)))), []int{0, 7}},
		{andI(under(api.ProofAllUI, nat, refl(v(0))), refl(v(0))), []int{0}},
		{at(api.ProofAllE, v(1), at(api.ProofAllUE, v(0), refl(v(7)))), []int{0, 1, 7}},
		{having(api.ProofExI, eq(v(0), v(2)), v(4), refl(v(6))), []int{0, 2, 4, 6}}, // the formula is the existential one, not its body
		{having(api.ProofExUI, eq(v(0), v(2)), v(4), refl(v(6))), []int{0, 2, 4, 6}},
		{rule(api.ProofExE, refl(v(0)), refl(v(3))), []int{0, 2}},
		{rule(api.ProofExUE, refl(v(0)), refl(v(0))), []int{0}},
		{having(api.ProofInd, eq(v(0), v(3)), v(5), refl(v(7)), refl(v(10))), []int{2, 5, 7, 9}},
		{having(api.ProofInd, eq(v(0), v(0)), zero, hyp(0), refl(v(0))), nil},
		{having(api.ProofListInd, eq(v(0), v(3)), v(5), refl(v(7)), refl(v(11))), []int{2, 5, 7, 9}},
		{having(api.ProofListInd, eq(v(0), v(0)), zero, hyp(0), refl(app(v(0), v(1)))), nil},
		{rewrite(eq(v(0), v(3)), refl(v(5)), refl(v(7))), []int{2, 5, 7}},
		{refl(v(greatest)), []int{greatest}},
		{allIs(1, refl(lam(nat, v(greatest)))), []int{greatest - 2}},
		{allIs(api.MaxProof-2, refl(v(api.MaxProof-3))), nil},
		{allIs(api.MaxProof-2, refl(v(api.MaxProof-2))), []int{0}},
	} {
		mustUses(t, strconv.Itoa(i), q.p, q.want...)
	}
	for _, q := range below(refl(app(v(0), v(1), v(2), v(3)))) {
		mustUses(t, q.name, q.p, []int{0, 1, 2, 3}[:4-q.vars]...)
	}
	for name, q := range formed(imp(eq(v(0), v(1)), all(nat, eq(v(0), v(3))))) {
		mustUses(t, "formula of "+name, q.p, []int{0, 1, 2}[:3-q.vars]...)
	}
	for name, p := range termed(app(v(0), lam(nat, app(v(0), v(3))))) {
		mustUses(t, "term of "+name, p, 0, 2)
	}
}

// P10.2: Lift.
func TestLift(t *testing.T) {
	for i, q := range []struct {
		p        api.Proof
		from, by int
		want     api.Proof
	}{
		{hyp(3), 0, 2, hyp(3)},
		{lemma(3), 0, 2, lemma(3)},
		{refl(app(v(0), v(1), v(2))), 1, 3, refl(app(v(0), v(4), v(5)))},
		{refl(app(v(0), v(1))), 0, 0, refl(app(v(0), v(1)))},
		{refl(app(v(0), v(1))), 2, 4096, refl(app(v(0), v(1)))},
		{refl(lam(nat, app(v(0), v(1), v(2)))), 1, 3, refl(lam(nat, app(v(0), v(1), v(5))))},
		{impI(all(nat, eq(v(0), v(2))), refl(v(1))), 1, 2, impI(all(nat, eq(v(0), v(4))), refl(v(3)))},
		{refl(v(farthest)), 4096, 4096, refl(v(farthest + 4096))},
		{hyp(greatest), 4096, 4096, hyp(greatest)}, // hypotheses and lemmas are no variables
		{andI(lemma(greatest), refl(v(4096))), 4096, 4096, andI(lemma(greatest), refl(v(8192)))},
		// Farther than subst.Lift may be asked for.
		{allIs(5000, refl(app(v(9095), v(9096)))), 4096, 1, allIs(5000, refl(app(v(9095), v(9097))))},
		{allIs(api.MaxProof-2, refl(v(api.MaxProof+4094))), 4096, 4096, allIs(api.MaxProof-2, refl(v(api.MaxProof+8190)))},
		{allIs(5000, impI(alls(4000, eq(v(9000), v(8999))), hyp(0))), 0, 7, allIs(5000, impI(alls(4000, eq(v(9007), v(8999))), hyp(0)))},
		{refl(above(4095, v(0))), 0, 1, refl(above(4095, v(1)))},
	} {
		got, err := proof.Lift(q.p, q.from, q.by)
		mustProof(t, strconv.Itoa(i), got, err, q.want, api.OK)
	}
}

// P10.2: Lift and Put below each kind, in each formula and in each term.
func TestPlaces(t *testing.T) {
	for from := range 4 {
		all4 := []api.Term{v(0), v(1), v(2), v(3)}
		for i, q := range below(refl(app(all4[0], all4[1:]...))) {
			lifted, put := slices.Clone(all4), slices.Clone(all4)
			for j := range all4 {
				if j >= from+q.vars {
					lifted[j] = v(j + 5)
				}
				if j > from+q.vars {
					put[j] = v(j - 1)
				}
				if j == from+q.vars {
					put[j] = succ(v(6 + j)) // 6 is beyond from, and lifted by the variables that are bound
				}
			}
			got, err := proof.Lift(q.p, from, 5)
			mustProof(t, q.name+": Lift", got, err, below(refl(app(lifted[0], lifted[1:]...)))[i].p, api.OK)
			got, err = proof.Put(q.p, from, succ(v(6)))
			mustProof(t, q.name+": Put", got, err, below(refl(app(put[0], put[1:]...)))[i].p, api.OK)
		}
	}
	f := imp(eq(v(0), v(1)), all(nat, eq(v(2), v(3))))
	for name, q := range formed(f) {
		for n := range 3 {
			lifted, _ := formula.Lift(f, n+q.vars, 5)
			got, err := proof.Lift(q.p, n, 5)
			mustProof(t, name+": Lift in a formula", got, err, formed(lifted)[name].p, api.OK)
			put, _ := formula.Put(f, n+q.vars, succ(v(6)))
			got, err = proof.Put(q.p, n, succ(v(6)))
			mustProof(t, name+": Put in a formula", got, err, formed(put)[name].p, api.OK)
		}
	}
	s := app(v(0), v(1), lam(nat, app(v(0), v(1), v(2), v(3))), rec(nat, v(0), v(1), v(2)), fold(nat, v(2), v(1), v(0)))
	for name, p := range termed(s) {
		for n := range 3 {
			lifted, _ := subst.Lift(s, n, 5)
			got, err := proof.Lift(p, n, 5)
			mustProof(t, name+": Lift in a term", got, err, termed(lifted)[name], api.OK)
			put, _ := subst.Put(s, n, lam(list, app(v(0), v(1))))
			got, err = proof.Put(p, n, lam(list, app(v(0), v(1))))
			mustProof(t, name+": Put in a term", got, err, termed(put)[name], api.OK)
		}
	}
}

// P10.2: the errors of Lift, in their order.
func TestLiftErrors(t *testing.T) {
	far := refl(v(farthest + 1))
	for i, q := range []struct {
		p        api.Proof
		from, by int
		want     api.Errno
	}{
		{andI(far, hyp(-1)), -1, -1, api.ErrForm},
		{refl(num(4096)), -1, -1, api.ErrSize},
		{allIs(api.MaxProof, far), 4097, 0, api.ErrSize},
		{hyp(0), -1, 0, api.ErrRange},
		{hyp(0), 0, -1, api.ErrRange},
		{hyp(0), 4097, 0, api.ErrRange},
		{hyp(0), 0, 4097, api.ErrRange},
		{hyp(0), greatest, 0, api.ErrRange},
		{hyp(0), 0, greatest, api.ErrRange},
		{hyp(0), -greatest - 1, 0, api.ErrRange},
		{hyp(0), 0, -greatest - 1, api.ErrRange},
		{far, 0, 0, api.ErrRange},
		{refl(v(greatest)), 0, 1, api.ErrRange},
		{allIs(1, refl(lam(nat, v(farthest+1)))), 4096, 0, api.ErrRange}, // the Index counts, not the variable
		{impI(all(nat, eq(zero, v(farthest+1))), hyp(0)), 0, 0, api.ErrRange},
		{andI(hyp(0), having(api.ProofInd, falsum(), v(farthest+1), hyp(0), hyp(0))), 0, 0, api.ErrRange},
		{hyp(0), 4096, 4096, api.OK},
		{hyp(farthest + 1), 0, 0, api.OK},
		{lemma(farthest + 1), 0, 0, api.OK},
	} {
		got, err := proof.Lift(q.p, q.from, q.by)
		want := q.p
		if q.want != api.OK {
			want = api.Proof{}
		}
		mustProof(t, strconv.Itoa(i), got, err, want, q.want)
	}
}

// P10.2: Put.
func TestPut(t *testing.T) {
	deep := lam(list, app(v(0), v(1)))
	for i, q := range []struct {
		p    api.Proof
		at   int
		s    api.Term
		want api.Proof
	}{
		{hyp(3), 3, zero, hyp(3)},
		{lemma(3), 2, zero, lemma(3)},
		{refl(app(v(0), v(1), v(2))), 1, succ(v(1)), refl(app(v(0), succ(v(2)), v(1)))},
		{refl(app(v(0), lam(nat, v(1)))), 0, deep, refl(app(deep, lam(nat, lam(list, app(v(0), v(2))))))},
		{impI(eq(v(0), all2()), refl(v(0))), 0, v(4), impI(eq(v(4), all2()), refl(v(4)))},
		{having(api.ProofInd, eq(v(0), v(1)), v(0), refl(v(0)), refl(v(1))), 0, v(2), having(api.ProofInd, eq(v(0), v(3)), v(2), refl(v(2)), refl(v(3)))},
		{allIs(5000, refl(app(v(9095), v(9096), v(9097)))), 4096, v(3), allIs(5000, refl(app(v(9095), v(9099), v(9096))))},
		{allIs(5000, impI(alls(4000, eq(v(9000), v(9001))), hyp(0))), 0, lam(nat, app(v(0), v(1))), allIs(5000, impI(alls(4000, eq(lam(nat, app(v(0), v(9001))), v(9000))), hyp(0)))},
		{refl(v(0)), 0, v(farthest), refl(v(farthest))},
		{under(api.ProofAllI, nat, refl(v(1))), 0, v(farthest), under(api.ProofAllI, nat, refl(v(farthest+1)))},
		{refl(app(v(farthest), v(0))), 0, zero, refl(app(v(farthest-1), zero))},
		{andI(hyp(greatest), lemma(greatest)), 0, zero, andI(hyp(greatest), lemma(greatest))},
		{refl(v(1)), 0, fullTerm(11), refl(v(0))},
		{allIs(1, fullProof(3, refl(v(0)))), 0, fullTerm(11), allIs(1, fullProof(3, refl(v(0))))}, // these are bound
		// As many nodes as may be: in a term, in a formula, in a term and a formula, and in all of the proof.
		{refl(pair(v(0), v(0))), 0, above(2046, v(1)), refl(pair(above(2046, v(1)), above(2046, v(1))))},
		{refl(v(0)), 0, above(4095, v(1)), refl(above(4095, v(1)))},
		{impI(eq(v(0), v(0)), hyp(0)), 0, above(2046, v(1)), impI(eq(above(2046, v(1)), above(2046, v(1))), hyp(0))},
		{impI(imp(eq(v(0), zero), all(nat, eq(v(1), zero))), hyp(0)), 0, num(2044), impI(imp(eq(num(2044), zero), all(nat, eq(num(2044), zero))), hyp(0))},
		{having(api.ProofExI, eq(v(0), zero), v(0), hyp(0)), 0, num(4093), having(api.ProofExI, eq(num(4093), zero), num(4093), hyp(0))},
		{allIs(5, fullProof(2, refl(v(5)))), 0, above(4092, v(1)), allIs(5, fullProof(2, refl(above(4092, v(6)))))},
		{allIs(1, fullProof(12, refl(v(1)))), 0, succ(v(1)), allIs(1, fullProof(12, refl(succ(v(2)))))},
	} {
		got, err := proof.Put(q.p, q.at, q.s)
		mustProof(t, strconv.Itoa(i), got, err, q.want, api.OK)
	}
}

// all2 returns a closed term with a variable of its own.
func all2() api.Term { return lam(nat, v(0)) }

// P10.2: Put returns proofs of api.MaxProof nodes, and no larger ones, although their terms and formulas are small enough.
func TestPutSizes(t *testing.T) {
	for name, q := range map[string]struct {
		p      api.Proof
		places int
	}{
		"terms":    {fullProof(3, refl(v(0))), 8},
		"formulas": {impI(eq(v(0), v(0)), fullProof(2, having(api.ProofExI, eq(v(0), zero), v(0), lemma(0)))), 10},
		"Forms":    {fullProof(2, rewrite(eq(v(1), v(1)), hyp(0), lemma(0))), 8},
		"below":    {impI(all(nat, eq(v(1), zero)), rule(api.ProofExE, refl(v(0)), having(api.ProofListInd, eq(v(2), zero), v(1), hyp(0), refl(v(3))))), 5},
	} {
		size, _ := proof.Size(q.p)
		free := api.MaxProof - size
		more := free / q.places // nodes that each place has more
		rest := free - q.places*more
		exact, _ := proof.Lift(q.p, 0, rest)
		exact = allIs(rest, exact)
		got, err := proof.Put(exact, 0, above(more, v(2)))
		must(t, name+": error", err, api.OK)
		size, err = proof.Size(got)
		must(t, name+": size", []any{size, err}, []any{api.MaxProof, api.OK})
		got, err = proof.Put(rule(api.ProofAndL, exact), 0, above(more, v(2)))
		mustProof(t, name+": one more", got, err, api.Proof{}, api.ErrSize)
	}
}

// P10.2: the errors of Put, in their order.
func TestPutErrors(t *testing.T) {
	bad, large, far := api.Term{}, above(4096, v(0)), v(farthest+1)
	for i, q := range []struct {
		p    api.Proof
		at   int
		s    api.Term
		want api.Errno
	}{
		{api.Proof{}, -1, large, api.ErrForm},
		{andI(refl(far), hyp(-1)), 0, zero, api.ErrForm},
		{refl(large), -1, bad, api.ErrSize},
		{allIs(api.MaxProof, hyp(0)), -1, bad, api.ErrSize},
		{hyp(0), -1, bad, api.ErrRange},
		{hyp(0), 4097, bad, api.ErrRange},
		{hyp(0), 4097, large, api.ErrRange},
		{hyp(0), greatest, zero, api.ErrRange},
		{hyp(0), -greatest - 1, zero, api.ErrRange},
		{refl(v(4097)), 4097, zero, api.ErrRange},
		{refl(far), 0, bad, api.ErrForm},
		{refl(far), 0, large, api.ErrSize},
		{hyp(0), 0, bad, api.ErrForm}, // also where it would stand nowhere
		{hyp(0), 0, large, api.ErrSize},
		{refl(far), 0, zero, api.ErrRange},
		{allIs(1, impI(eq(zero, lam(nat, far)), hyp(0))), 0, zero, api.ErrRange},
		{hyp(0), 0, far, api.ErrRange},
		{hyp(0), 0, lam(nat, v(greatest)), api.ErrRange},
		{andI(refl(pair(v(0), v(0))), refl(far)), 0, above(4095, zero), api.ErrRange},
		{refl(pair(v(0), v(0))), 0, above(4095, far), api.ErrRange},
		{refl(succ(v(0))), 0, num(4095), api.ErrSize},
		{refl(pair(v(0), v(0))), 0, num(2047), api.ErrSize},
		{impI(eq(v(0), zero), hyp(0)), 0, num(4094), api.ErrSize},
		{impI(eq(v(0), v(0)), hyp(0)), 0, num(2047), api.ErrSize}, // in both terms together
		{impI(imp(eq(v(0), zero), all(nat, eq(v(1), zero))), hyp(0)), 0, num(2045), api.ErrSize},
		{having(api.ProofExUI, eq(v(0), zero), v(0), hyp(0)), 0, num(4094), api.ErrSize},
		{rewrite(eq(zero, v(1)), hyp(0), hyp(0)), 0, num(4094), api.ErrSize},
		{allIs(6, fullProof(2, refl(v(6)))), 0, above(4092, v(1)), api.ErrSize},
		{allIs(2, fullProof(12, refl(v(2)))), 0, succ(v(1)), api.ErrSize},
		{fullProof(12, refl(v(0))), 0, fullTerm(11), api.ErrSize},
	} {
		got, err := proof.Put(q.p, q.at, q.s)
		mustProof(t, strconv.Itoa(i), got, err, api.Proof{}, q.want)
	}
	for i, s := range samples.WrongTerms() {
		for _, s := range []api.Term{s, lam(nat, pair(zero, s)), above(5000, s)} {
			got, err := proof.Put(refl(v(0)), 0, s)
			mustProof(t, "wrong term "+strconv.Itoa(i), got, err, api.Proof{}, api.ErrForm)
		}
	}
}
