package kernel_test

import (
	"fmt"
	"reflect"
	"slices"
	"strconv"
	"testing"

	"proofprograms/api"
	"proofprograms/formula"
	"proofprograms/kernel"
	"proofprograms/proof"
	"proofprograms/samples"
)

// A proven is a proof that the kernel accepts, with what it stands in and what it proves.
type proven struct {
	known
	p   api.Proof
	got api.Proved
}

// accepted returns proofs of all kinds that the kernel accepts.
func accepted(t *testing.T, n int) []proven {
	t.Helper()
	var l []proven
	kinds := map[int]int{}
	for i := range n {
		c := &samples.Choices{State: uint64(i)}
		lemmas, s := c.Sequent()
		p, f := c.Proven(lemmas, s, 3+i%3)
		got, err := kernel.Infer(lemmas, s, p)
		if err != api.OK || !formula.Same(got.Formula, f) {
			t.Fatalf("%d: %d, %.300s", i, err, fmt.Sprint(got, f))
		}
		l = append(l, proven{known{lemmas, s}, p, got})
		count(p, kinds)
	}
	must(t, "kinds", len(kinds), api.ProofChoice)
	return l
}

// count counts the nodes of a proof by their kinds.
func count(p api.Proof, kinds map[int]int) {
	kinds[p.Kind]++
	for _, a := range p.Args {
		count(a, kinds)
	}
}

// mustInfer fails the test if what a proof proves, or its error, is not the same as something else.
func mustInfer(t *testing.T, what string, got api.Proved, err api.Errno, want api.Proved, wantErr api.Errno) {
	t.Helper()
	same := formula.Same(got.Formula, want.Formula) && slices.Equal(got.Uses, want.Uses)
	if err != wantErr || !same {
		t.Errorf("%s: got %.300s, %d, want %.300s, %d", what, fmt.Sprint(got), err, fmt.Sprint(want), wantErr)
	}
}

// P11.2: what is inferred is what the chapter's table says, line by line.
func TestNaive(t *testing.T) {
	for i, x := range accepted(t, 1500) {
		want, err := naively(x.lemmas, x.s, x.p)
		mustInfer(t, strconv.Itoa(i), x.got, api.OK, want, err)
	}
	for i := range 1500 { // proofs that are mostly wrong
		c := &samples.Choices{State: uint64(i)}
		lemmas, s := c.Sequent()
		p := c.Tree(2 + i%4)
		got, err := kernel.Infer(lemmas, s, p)
		want, wantErr := naively(lemmas, s, p)
		mustInfer(t, "tree "+strconv.Itoa(i), got, err, want, wantErr)
	}
}

// P11.2: a proof with one node that is something else proves, or has as its error, what the chapter's table says.
func TestOtherNodes(t *testing.T) {
	found := map[api.Errno]int{}
	for i, x := range accepted(t, 300) {
		c := &samples.Choices{State: uint64(i)}
		others(c, x.p, func(p api.Proof) {
			got, err := infer(x.known, p)
			want, wantErr := naively(x.lemmas, x.s, p)
			mustInfer(t, fmt.Sprint(i, ": ", p), got, err, want, wantErr)
			found[err]++
		})
	}
	for _, err := range []api.Errno{api.OK, api.ErrForm, api.ErrScope, api.ErrType, api.ErrHyp, api.ErrLemma, api.ErrShape, api.ErrMatch, api.ErrUse} {
		if found[err] < 20 {
			t.Errorf("only %d proofs have the error %d", found[err], err)
		}
	}
}

// others hands out proofs that differ from one in a single node.
func others(c *samples.Choices, p api.Proof, yield func(p api.Proof)) {
	for _, kinds := range [][]int{
		{api.ProofHyp, api.ProofLemma}, {api.ProofAndI, api.ProofImpE, api.ProofExE, api.ProofExUE}, {api.ProofAndL, api.ProofAndR, api.ProofChoice}, {api.ProofAllI, api.ProofAllUI},
		{api.ProofAllE, api.ProofAllUE}, {api.ProofExI, api.ProofExUI}, {api.ProofInd, api.ProofListInd},
	} {
		for _, kind := range kinds {
			if q := p; kind != p.Kind && slices.Contains(kinds, p.Kind) {
				q.Kind = kind
				yield(q)
			}
		}
	}
	q := p
	q.Index++
	yield(q)
	if q = p; len(p.Args) == 2 {
		q.Args = []api.Proof{p.Args[1], p.Args[0]}
		yield(q)
	}
	if q = p; len(p.Terms) > 0 {
		q.Terms = []api.Term{c.OfType([]api.Type{nat, list, nat}, c.Simple(), 2)}
		yield(q)
	}
	if q = p; len(p.Forms) > 0 {
		q.Forms = []api.Formula{c.Formula([]api.Type{nat, nat}, 2)}
		yield(q)
	}
	if q = p; p.Type.Kind > 0 {
		q.Type = c.Simple()
		yield(q)
	}
	for _, q := range []api.Proof{hyp(c.Below(3)), refl(v(c.Below(2))), under(api.ProofAllUI, c.Simple(), p), andI(p, hyp(0)), rule(api.ProofAndL, p)} {
		yield(q)
	}
	for i, a := range p.Args {
		others(c, a, func(b api.Proof) {
			q := p
			q.Args = slices.Clone(p.Args)
			q.Args[i] = b
			yield(q)
		})
	}
}

// The chapter's consequences: what a proof proves is typed in the context; the uses are free variables of terms in the proof.
func TestTypedAndUsed(t *testing.T) {
	used := 0
	for i, x := range accepted(t, 1500) {
		must(t, strconv.Itoa(i)+": Typed", formula.Typed(x.s.Types, x.got.Formula), api.OK)
		must(t, strconv.Itoa(i)+": Accepts", kernel.Accepts(x.lemmas, x.s, x.p, x.got.Formula), api.OK)
		free, err := proof.Uses(x.p)
		must(t, strconv.Itoa(i)+": Uses", err, api.OK)
		must(t, strconv.Itoa(i)+": ascending", slices.IsSorted(x.got.Uses) && len(slices.Compact(slices.Clone(x.got.Uses))) == len(x.got.Uses), true)
		for _, n := range x.got.Uses {
			must(t, strconv.Itoa(i)+": "+strconv.Itoa(n)+" is free", slices.Contains(free, n), true)
			used++
		}
	}
	if used < 100 {
		t.Errorf("only %d uses", used)
	}
}

// changed returns what change makes of formulas.
func changed(t *testing.T, l []api.Formula, change func(f api.Formula) (api.Formula, api.Errno)) []api.Formula {
	t.Helper()
	var r []api.Formula
	for _, f := range l {
		g, err := change(f)
		must(t, "hypothesis", err, api.OK)
		r = append(r, g)
	}
	return r
}

// The chapter's consequences: with more variables, hypotheses and lemmas a proof proves the same, lifted accordingly.
func TestMore(t *testing.T) {
	for i, x := range accepted(t, 1000) {
		what, n, c := strconv.Itoa(i), len(x.s.Types), &samples.Choices{State: uint64(i)}
		from := c.Below(n + 1)
		lift := func(f api.Formula) (api.Formula, api.Errno) { return formula.Lift(f, from, 1) }
		context := slices.Insert(slices.Clone(x.s.Types), n-from, c.Simple())
		more := api.Sequent{Types: context, Hyps: changed(t, x.s.Hyps, lift)}
		want := api.Proved{Formula: changed(t, []api.Formula{x.got.Formula}, lift)[0]}
		for _, u := range x.got.Uses {
			if u >= from {
				u++
			}
			want.Uses = append(want.Uses, u)
		}
		p, _ := proof.Lift(x.p, from, 1)
		got, err := kernel.Infer(x.lemmas, more, p)
		mustInfer(t, what+": a variable more", got, err, want, api.OK)

		m := len(x.s.Hyps)
		from = c.Below(m + 1)
		more = api.Sequent{Types: x.s.Types, Hyps: slices.Insert(slices.Clone(x.s.Hyps), m-from, c.Formula(x.s.Types, 2))}
		p, _ = proof.LiftHyps(x.p, from, 1)
		got, err = kernel.Infer(x.lemmas, more, p)
		mustInfer(t, what+": a hypothesis more", got, err, x.got, api.OK)
		got, err = kernel.Infer(append(slices.Clone(x.lemmas), falsum()), x.s, x.p)
		mustInfer(t, what+": a lemma more", got, err, x.got, api.OK)
		more = api.Sequent{Types: append(nats(16-n), x.s.Types...), Hyps: append(times(16-m, falsum()), x.s.Hyps...)}
		if got, err = kernel.Infer(x.lemmas, more, x.p); err != api.ErrLimit {
			mustInfer(t, what+": as many as may be", got, err, x.got, api.OK)
		}
	}
}

// The chapter's consequences: a term may be put in place of a variable in everything.
func TestPut(t *testing.T) {
	for i, x := range accepted(t, 1000) {
		n, c := len(x.s.Types), &samples.Choices{State: uint64(i)}
		for at := range n {
			outer := x.s.Types[:n-1-at]
			s := c.OfType(outer, x.s.Types[n-1-at], 1+c.Below(3))
			put := func(f api.Formula) (api.Formula, api.Errno) { return formula.Put(f, at, s) }
			less := api.Sequent{Types: slices.Delete(slices.Clone(x.s.Types), n-1-at, n-at), Hyps: changed(t, x.s.Hyps, put)}
			want := changed(t, []api.Formula{x.got.Formula}, put)[0]
			p, err := proof.Put(x.p, at, s)
			must(t, fmt.Sprint(i, " ", at), err, api.OK)
			if err := kernel.Accepts(x.lemmas, less, p, want); err != api.OK && err != api.ErrSteps && err != api.ErrSize {
				t.Errorf("%d: put at %d: %d", i, at, err)
			}
		}
	}
}

// The chapter's consequences: a proof may be put in place of a hypothesis that it proves.
func TestPutHyp(t *testing.T) {
	there := 0
	for i, x := range accepted(t, 600) {
		c := &samples.Choices{State: uint64(i)}
		q, f := c.Proven(x.lemmas, x.s, 3)
		at := c.Below(len(x.s.Hyps) + 1)
		more := api.Sequent{Types: x.s.Types, Hyps: slices.Insert(slices.Clone(x.s.Hyps), len(x.s.Hyps)-at, f)}
		// Proofs for the larger sequent, which may use the hypothesis.
		p, g := c.Proven(x.lemmas, more, 4)
		if hyps, _ := proof.Hyps(q); len(hyps) > 0 && hyps[0] < at {
			continue // it has to stand in the hypotheses beyond at
		}
		if hyps, _ := proof.Hyps(p); slices.Contains(hyps, at) {
			there++
		}
		p, err := proof.PutHyp(p, at, lowered(q, at))
		must(t, strconv.Itoa(i), err, api.OK)
		must(t, strconv.Itoa(i)+": accepted", kernel.Accepts(x.lemmas, x.s, p, g), api.OK)
	}
	if there < 50 {
		t.Errorf("only %d hypotheses are used", there)
	}
}

// lowered returns a proof that uses no hypothesis less than n with n hypotheses less.
func lowered(p api.Proof, n int) api.Proof {
	for range n {
		p, _ = proof.PutHyp(p, 0, hyp(0))
	}
	return p
}

// P11.3: Accepts does what Infer, formula.Typed and formula.Match do one after the other.
func TestAcceptsOfMany(t *testing.T) {
	l := accepted(t, 400)
	for i, x := range l {
		for _, y := range []proven{x, l[(i+1)%len(l)], l[(i+7)%len(l)]} {
			want := formula.Typed(x.s.Types, y.got.Formula)
			if want == api.OK {
				want = formula.Match(x.got.Formula, y.got.Formula)
			}
			must(t, strconv.Itoa(i), kernel.Accepts(x.lemmas, x.s, x.p, y.got.Formula), want)
		}
	}
}

// R2: arguments stay as they are, and so does what stands behind the ends of their slices. R4: the same call returns the same.
func TestArguments(t *testing.T) {
	for i, x := range accepted(t, 400) {
		what := strconv.Itoa(i)
		p, f := samples.MarkedProof(x.p), samples.MarkedFormula(x.got.Formula)
		lemmas, context, hyps := marked(x.lemmas), append(slices.Clone(x.s.Types), api.Type{Kind: 77}), marked(x.s.Hyps)
		k := known{lemmas, api.Sequent{Types: context[:len(x.s.Types)], Hyps: hyps}}
		for range 2 {
			got, err := infer(k, p)
			mustInfer(t, what, got, err, x.got, api.OK)
			must(t, what+": Accepts", kernel.Accepts(k.lemmas, k.s, p, f), api.OK)
		}
		must(t, what+": proof", samples.DeepProof(p), samples.DeepProof(x.p))
		must(t, what+": formula", samples.DeepFormula(f), samples.DeepFormula(x.got.Formula))
		must(t, what+": sequent", []any{deep(lemmas), context[:len(x.s.Types):len(x.s.Types)], deep(hyps)}, []any{deep(x.lemmas), x.s.Types, deep(x.s.Hyps)})
		behind := samples.ProofIsMarked(p) && samples.FormulaIsMarked(f) && isMarked(lemmas) && isMarked(hyps) && context[len(x.s.Types)].Kind == 77
		must(t, what+": behind the ends", behind, true)
	}
}

// marked returns formulas with something behind the ends of their slices, and behind the last one.
func marked(l []api.Formula) []api.Formula {
	r := make([]api.Formula, len(l)+1)
	for i, f := range l {
		r[i] = samples.MarkedFormula(f)
	}
	r[len(l)].Kind = 77
	return r[:len(l)]
}

// isMarked reports whether what marked put behind the ends is still there.
func isMarked(l []api.Formula) bool {
	return l[:len(l)+1][len(l)].Kind == 77 && !slices.ContainsFunc(l, func(f api.Formula) bool { return !samples.FormulaIsMarked(f) })
}

// deep returns copies that share no memory.
func deep(l []api.Formula) []api.Formula {
	r := []api.Formula{}
	for _, f := range l {
		r = append(r, samples.DeepFormula(f))
	}
	return r
}

// R2: results may share memory with arguments, but a call that follows does not change them.
func TestResultsStay(t *testing.T) {
	for i, x := range accepted(t, 200) {
		old, uses := samples.DeepFormula(x.got.Formula), slices.Clone(x.got.Uses)
		k := known{x.lemmas, api.Sequent{Types: x.s.Types, Hyps: append(slices.Clone(x.s.Hyps), x.got.Formula)}}
		for _, p := range []api.Proof{hyp(0), andI(hyp(0), hyp(0)), allIs(2, hyp(0)), having(api.ProofInd, eq(v(0), v(0)), zero, refl(zero), rule(api.ProofAndL, andI(refl(succ(v(0))), hyp(1))))} {
			_, err := infer(k, p)
			must(t, strconv.Itoa(i), err, api.OK)
		}
		must(t, strconv.Itoa(i), reflect.DeepEqual(samples.DeepFormula(x.got.Formula), old) && slices.Equal(x.got.Uses, uses), true)
	}
}
