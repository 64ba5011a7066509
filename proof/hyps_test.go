package proof_test

import (
	"strconv"
	"testing"

	"proofprograms/api"
	"proofprograms/proof"
	"proofprograms/samples"
)

// hyps returns a proof with some hypotheses, in this order.
func hyps(l ...int) api.Proof {
	p := hyp(l[0])
	for _, i := range l[1:] {
		p = andI(p, hyp(i))
	}
	return p
}

// impIs returns n nodes ImpI on a proof: 4*n nodes more.
func impIs(n int, p api.Proof) api.Proof {
	for range n {
		p = impI(eq(zero, zero), p)
	}
	return p
}

// P10.1: Hyps and Lemmas.
func TestHyps(t *testing.T) {
	for i, q := range []struct {
		p            api.Proof
		hyps, lemmas []int
	}{
		{hyp(3), []int{3}, nil},
		{lemma(3), nil, []int{3}},
		{refl(v(3)), nil, nil},
		{impI(falsum(), hyp(0)), nil, nil}, // the chapter's example
		{impI(falsum(), hyp(1)), []int{0}, nil},
		{impI(falsum(), lemma(0)), nil, []int{0}},
		{andI(hyp(2), andI(hyp(0), hyp(2))), []int{0, 2}, nil},
		{andI(lemma(7), andI(lemma(2), andI(hyp(5), lemma(7)))), []int{5}, []int{2, 7}},
		{andI(impI(falsum(), hyp(0)), hyp(0)), []int{0}, nil}, // behind ImpI its hypothesis is gone
		{under(api.ProofAllI, nat, hyp(0)), []int{0}, nil},
		{rule(api.ProofExE, hyp(0), hyp(0)), []int{0}, nil},
		{rule(api.ProofExE, hyp(0), hyp(3)), []int{0, 2}, nil},
		{rule(api.ProofExUE, hyp(4), hyps(0, 3)), []int{2, 4}, nil},
		{having(api.ProofInd, falsum(), zero, hyp(4), hyps(0, 3)), []int{2, 4}, nil},
		{having(api.ProofListInd, falsum(), zero, hyp(4), hyps(0, 3)), []int{2, 4}, nil}, // two variables, but one hypothesis
		{rewrite(falsum(), hyp(4), hyp(2)), []int{2, 4}, nil},
		{hyp(greatest), []int{greatest}, nil},
		{lemma(greatest), nil, []int{greatest}},
		{impI(falsum(), hyp(greatest)), []int{greatest - 1}, nil},
		{impIs(4095, hyps(4094)), nil, nil},
		{impIs(4000, hyps(0, 4000, 3999, 4001)), []int{0, 1}, nil},
		{hyps(10, 9, 8, 7, 6, 5, 4, 3, 2, 1, 0), []int{0, 1, 2, 3, 4, 5, 6, 7, 8, 9, 10}, nil},
	} {
		what := strconv.Itoa(i)
		got, err := proof.Hyps(q.p)
		must(t, what+": Hyps", []any{got, err}, []any{q.hyps, api.OK})
		got, err = proof.Lemmas(q.p)
		must(t, what+": Lemmas", []any{got, err}, []any{q.lemmas, api.OK})
	}
	for _, q := range below(andI(hyps(0, 1, 2, 3), andI(lemma(1), lemma(5)))) {
		got, err := proof.Hyps(q.p)
		must(t, q.name+": Hyps", []any{got, err}, []any{[]int{0, 1, 2, 3}[:4-q.hyps], api.OK})
		got, err = proof.Lemmas(q.p)
		want := []int{0, 1, 5} // 0 is that of the other parts
		if len(q.p.Args) == 1 {
			want = want[1:]
		}
		must(t, q.name+": Lemmas", []any{got, err}, []any{want, api.OK})
	}
}

// P10.3: LiftHyps.
func TestLiftHyps(t *testing.T) {
	far := refl(v(farthest + 1))
	for i, q := range []struct {
		p        api.Proof
		from, by int
		want     api.Proof
	}{
		{hyp(3), 0, 2, hyp(5)},
		{hyps(0, 1, 2), 1, 3, hyps(0, 4, 5)},
		{hyps(0, 1, 2), 3, 3, hyps(0, 1, 2)},
		{hyps(0, 1, 2), 0, 0, hyps(0, 1, 2)},
		{lemma(3), 0, 2, lemma(3)},
		{refl(v(3)), 0, 2, refl(v(3))},
		{far, 0, 2, far}, // variables are no hypotheses
		{andI(lemma(greatest), hyp(0)), 0, 1, andI(lemma(greatest), hyp(1))},
		{impI(falsum(), hyps(0, 1, 2)), 1, 3, impI(falsum(), hyps(0, 1, 5))},
		{impI(eq(v(0), v(1)), hyps(0, 1)), 0, 3, impI(eq(v(0), v(1)), hyps(0, 4))},
		{hyp(farthest), 0, api.MaxProof, hyp(farthest + api.MaxProof)},
		{hyps(api.MaxProof, api.MaxProof-1), api.MaxProof, api.MaxProof, hyps(2*api.MaxProof, api.MaxProof-1)},
		{impIs(2000, hyps(2000+api.MaxProof, 1999+api.MaxProof)), api.MaxProof, api.MaxProof, impIs(2000, hyps(2000+2*api.MaxProof, 1999+api.MaxProof))},
		{deepHyps(5000, hyps(4999, 5000)), 0, 7, deepHyps(5000, hyps(4999, 5007))},
	} {
		got, err := proof.LiftHyps(q.p, q.from, q.by)
		mustProof(t, strconv.Itoa(i), got, err, q.want, api.OK)
	}
}

// deepHyps returns a proof below n hypotheses and as many variables, with 2*n nodes more.
func deepHyps(n int, p api.Proof) api.Proof {
	for range n {
		p = rule(api.ProofExE, lemma(0), p)
	}
	return p
}

// P10.3: LiftHyps and PutHyp below each kind.
func TestHypPlaces(t *testing.T) {
	q := andI(hyps(0, 2), andI(lemma(9), impI(eq(v(0), v(2)), andI(hyps(0, 1), refl(lam(nat, app(v(0), v(1))))))))
	// qAt returns what q is below some variables, with its hypotheses greater by up.
	qAt := func(vars, up int) api.Proof {
		return andI(hyps(up, 2+up), andI(lemma(9), impI(eq(v(vars), v(2+vars)), andI(hyps(0, 1+up), refl(lam(nat, app(v(0), v(1+vars))))))))
	}
	for from := range 3 {
		for i, x := range below(hyps(0, 1, 2, 3)) {
			lifted, put := []int{0, 1, 2, 3}, []api.Proof{hyp(0), hyp(1), hyp(2), hyp(3)}
			for j := range put {
				if j >= from+x.hyps {
					lifted[j] += 5
				}
				if j > from+x.hyps {
					put[j] = hyp(j - 1)
				}
				if j == from+x.hyps {
					put[j] = qAt(x.vars, j)
				}
			}
			got, err := proof.LiftHyps(x.p, from, 5)
			mustProof(t, x.name+": LiftHyps", got, err, below(hyps(lifted...))[i].p, api.OK)
			got, err = proof.PutHyp(x.p, from, q)
			mustProof(t, x.name+": PutHyp", got, err, below(andI(andI(andI(put[0], put[1]), put[2]), put[3]))[i].p, api.OK)
		}
	}
}

// P10.3: the errors of LiftHyps, in their order.
func TestLiftHypsErrors(t *testing.T) {
	for i, q := range []struct {
		p        api.Proof
		from, by int
		want     api.Errno
	}{
		{andI(hyp(farthest+1), hyp(-1)), -1, -1, api.ErrForm},
		{refl(num(4096)), -1, -1, api.ErrSize},
		{allIs(api.MaxProof, hyp(farthest+1)), 0, 0, api.ErrSize},
		{hyp(0), -1, 0, api.ErrRange},
		{hyp(0), 0, -1, api.ErrRange},
		{hyp(0), api.MaxProof + 1, 0, api.ErrRange},
		{hyp(0), 0, api.MaxProof + 1, api.ErrRange},
		{hyp(0), greatest, 0, api.ErrRange},
		{hyp(0), 0, greatest, api.ErrRange},
		{hyp(0), -greatest - 1, 0, api.ErrRange},
		{hyp(0), 0, -greatest - 1, api.ErrRange},
		{hyp(farthest + 1), 0, 0, api.ErrRange},
		{hyp(greatest), 0, 1, api.ErrRange},
		{impI(falsum(), andI(hyp(0), hyp(farthest+1))), api.MaxProof, 0, api.ErrRange}, // the Index counts, not the hypothesis
		{hyp(0), api.MaxProof, api.MaxProof, api.OK},
		{lemma(greatest), 0, 0, api.OK},
		{refl(v(greatest)), 0, 0, api.OK},
	} {
		got, err := proof.LiftHyps(q.p, q.from, q.by)
		want := q.p
		if q.want != api.OK {
			want = api.Proof{}
		}
		mustProof(t, strconv.Itoa(i), got, err, want, q.want)
	}
}

// P10.3: PutHyp.
func TestPutHyp(t *testing.T) {
	q := andI(hyp(1), refl(v(0)))
	far := refl(v(farthest + 1))
	for i, x := range []struct {
		p    api.Proof
		at   int
		q    api.Proof
		want api.Proof
	}{
		{hyp(0), 0, q, q},
		{hyp(1), 0, q, hyp(0)},
		{hyp(0), 1, q, hyp(0)},
		{hyp(2), 2, q, andI(hyp(3), refl(v(0)))}, // q stands in the context of the hypotheses beyond 2
		{lemma(0), 0, q, lemma(0)},
		{refl(v(0)), 0, q, refl(v(0))},
		{andI(lemma(greatest), hyp(0)), 0, lemma(greatest), andI(lemma(greatest), lemma(greatest))},
		{impI(eq(v(0), zero), hyps(0, 1, 2)), 0, hyp(0), impI(eq(v(0), zero), andI(hyps(0, 1), hyp(1)))},
		{impI(falsum(), andI(hyp(0), hyp(1))), 0, q, impI(falsum(), andI(hyp(0), andI(hyp(2), refl(v(0)))))},
		{allIs(2, hyp(0)), 0, q, allIs(2, andI(hyp(1), refl(v(2))))},
		{rule(api.ProofExE, hyp(3), hyp(2)), 1, q, rule(api.ProofExE, hyp(2), andI(hyp(3), refl(v(1))))},
		{having(api.ProofListInd, falsum(), v(0), hyp(0), hyp(1)), 0, q, having(api.ProofListInd, falsum(), v(0), q, andI(hyp(2), refl(v(2))))},
		{hyp(0), 0, hyp(farthest), hyp(farthest)},
		{impI(falsum(), hyp(1)), 0, hyp(farthest), impI(falsum(), hyp(farthest+1))},
		{allIs(1, hyp(0)), 0, refl(v(farthest)), allIs(1, refl(v(farthest+1)))},
		{hyps(farthest, 0), 0, q, andI(hyp(farthest-1), q)},
		{andI(far, hyp(0)), 0, q, andI(far, q)}, // the variables of p stay as they are
		{hyps(api.MaxProof, api.MaxProof-1, api.MaxProof+1), api.MaxProof, hyp(1), hyps(api.MaxProof+1, api.MaxProof-1, api.MaxProof)},
		// Farther than Lift and LiftHyps may be asked for.
		{deepHyps(5000, hyp(5003)), 3, q, deepHyps(5000, andI(hyp(5004), refl(v(5000))))},
		{allIs(16000, hyp(2)), 2, impI(eq(v(0), lam(nat, v(1))), hyps(0, 1)), allIs(16000, impI(eq(v(16000), lam(nat, v(16001))), hyps(0, 3)))},
		{impIs(2000, hyp(2000+api.MaxProof)), api.MaxProof, hyp(0), impIs(2000, hyp(2000+api.MaxProof))},
		// As many nodes as may be.
		{hyp(1), 0, allIs(api.MaxProof-1, hyp(0)), hyp(0)},
		{hyp(0), 0, allIs(api.MaxProof-1, hyp(3)), allIs(api.MaxProof-1, hyp(3))},
		{rule(api.ProofAndL, hyp(0)), 0, allIs(api.MaxProof-2, hyp(3)), rule(api.ProofAndL, allIs(api.MaxProof-2, hyp(3)))},
		{rule(api.ProofAndL, hyps(0, 0)), 0, allIs(8190, hyp(0)), rule(api.ProofAndL, andI(allIs(8190, hyp(0)), allIs(8190, hyp(0))))},
		{allIs(1, fullProof(12, hyp(0))), 0, refl(succ(v(1))), allIs(1, fullProof(12, refl(succ(v(2)))))},
		{allIs(api.MaxProof-1, hyp(0)), 0, hyp(7), allIs(api.MaxProof-1, hyp(7))},
		{impIs(1, hyps(1, 1)), 0, allIs(8188, hyp(0)), impIs(1, andI(allIs(8188, hyp(1)), allIs(8188, hyp(1))))},
		{impIs(1, hyps(0, 0)), 0, allIs(api.MaxProof-1, hyp(0)), impIs(1, hyps(0, 0))}, // these are bound
	} {
		got, err := proof.PutHyp(x.p, x.at, x.q)
		mustProof(t, strconv.Itoa(i), got, err, x.want, api.OK)
	}
}

// P10.3: the errors of PutHyp, in their order.
func TestPutHypErrors(t *testing.T) {
	bad, large, far, farVar := api.Proof{}, allIs(api.MaxProof, hyp(0)), hyp(farthest+1), refl(v(farthest+1))
	for i, x := range []struct {
		p    api.Proof
		at   int
		q    api.Proof
		want api.Errno
	}{
		{andI(large, bad), -1, large, api.ErrForm},
		{bad, 0, hyp(0), api.ErrForm},
		{large, -1, bad, api.ErrSize},
		{refl(num(4096)), 0, bad, api.ErrSize},
		{hyp(0), -1, bad, api.ErrRange},
		{hyp(0), api.MaxProof + 1, large, api.ErrRange},
		{hyp(api.MaxProof + 1), api.MaxProof + 1, hyp(0), api.ErrRange},
		{hyp(0), greatest, hyp(0), api.ErrRange},
		{hyp(0), -greatest - 1, hyp(0), api.ErrRange},
		{far, 0, bad, api.ErrForm},
		{far, 0, andI(large, bad), api.ErrForm},
		{far, 0, large, api.ErrSize},
		{hyp(1), 0, bad, api.ErrForm}, // also where it would stand nowhere
		{hyp(1), 0, large, api.ErrSize},
		{hyp(1), 0, refl(num(4096)), api.ErrSize},
		{far, 0, hyp(0), api.ErrRange},
		{impI(falsum(), andI(hyp(0), far)), 5, hyp(0), api.ErrRange},
		{hyp(greatest), 0, hyp(0), api.ErrRange},
		{hyp(1), 0, far, api.ErrRange},
		{hyp(1), 0, impI(falsum(), hyp(greatest)), api.ErrRange},
		{hyp(1), 0, farVar, api.ErrRange},
		{hyp(1), 0, allIs(1, impI(all(nat, eq(zero, v(farthest+1))), hyp(0))), api.ErrRange},
		{hyp(1), 0, andI(refl(lam(nat, v(greatest))), hyp(0)), api.ErrRange},
		{andI(hyps(0, 0), far), 0, allIs(api.MaxProof-1, hyp(0)), api.ErrRange},
		{hyps(0, 0), 0, allIs(api.MaxProof-1, far), api.ErrRange},
		{hyps(0, 0), 0, allIs(api.MaxProof-2, farVar), api.ErrRange},
		{rule(api.ProofAndL, hyp(0)), 0, allIs(api.MaxProof-1, hyp(0)), api.ErrSize},
		{hyps(0, 0), 0, allIs(8191, hyp(0)), api.ErrSize},
		{rule(api.ProofAndR, rule(api.ProofAndL, hyps(0, 0))), 0, allIs(8190, hyp(0)), api.ErrSize},
		{allIs(2, fullProof(12, hyp(0))), 0, refl(succ(v(1))), api.ErrSize},
		{impIs(1, hyps(1, 1)), 0, allIs(8189, hyp(0)), api.ErrSize},
		{fullProof(12, hyp(0)), 0, allIs(api.MaxProof-1, hyp(0)), api.ErrSize},
	} {
		got, err := proof.PutHyp(x.p, x.at, x.q)
		mustProof(t, strconv.Itoa(i), got, err, api.Proof{}, x.want)
	}
}

// P10.3: what is put in has any error that proofs have.
func TestPutHypOfWrong(t *testing.T) {
	for i, q := range samples.WrongProofs() {
		if i%7 == 0 {
			got, err := proof.PutHyp(hyp(farthest+1), 0, andI(hyp(0), q))
			mustProof(t, strconv.Itoa(i), got, err, api.Proof{}, api.ErrForm)
		}
	}
}
