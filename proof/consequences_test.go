package proof_test

import (
	"maps"
	"slices"
	"strconv"
	"strings"
	"testing"

	"proofprograms/api"
	"proofprograms/proof"
	"proofprograms/samples"
	"proofprograms/subst"
)

// A scope says where a part of a tree stands: so many variables and hypotheses are bound above it.
// The last ones of these, as many as own and ownHyps say, are bound in the tree itself. What binds the others is a tree in which it stands.
type scope struct{ own, vars, ownHyps, hyps int }

// A names says what the free variables and hypotheses of a tree are called at a place.
type names struct{ variable, hyp func(i int, at scope) string }

// bound returns the scope with more variables and hypotheses.
func (s scope) bound(vars, hyps int) scope {
	return scope{s.own + vars, s.vars + vars, s.ownHyps + hyps, s.hyps + hyps}
}

// outer returns the scope of a tree that comes to stand there.
func (s scope) outer() scope { return scope{vars: s.vars, hyps: s.hyps} }

// term returns a term as a text with names instead of numbers: what is bound is named by how many are bound above it.
func (n names) term(t api.Term, at scope) string {
	if t.Kind == api.TermVar && t.Index < at.own {
		return "b" + strconv.Itoa(at.vars-1-t.Index)
	}
	if t.Kind == api.TermVar {
		return n.variable(t.Index-at.own, at)
	}
	if t.Kind == api.TermLam {
		at = at.bound(1, 0)
	}
	l := []string{strconv.Itoa(t.Kind), strconv.Itoa(t.Type.Kind)}
	for _, a := range t.Args {
		l = append(l, n.term(a, at))
	}
	return "(" + strings.Join(l, " ") + ")"
}

// form returns a formula as such a text.
func (n names) form(f api.Formula, at scope) string {
	if f.Kind >= api.FormAll {
		at = at.bound(1, 0)
	}
	l := []string{strconv.Itoa(f.Kind), strconv.Itoa(f.Type.Kind)}
	for _, t := range f.Terms {
		l = append(l, n.term(t, at))
	}
	for _, a := range f.Args {
		l = append(l, n.form(a, at))
	}
	return "[" + strings.Join(l, " ") + "]"
}

// proof returns a proof as such a text.
func (n names) proof(p api.Proof, at scope) string {
	if p.Kind == api.ProofHyp && p.Index < at.ownHyps {
		return "h" + strconv.Itoa(at.hyps-1-p.Index)
	}
	if p.Kind == api.ProofHyp {
		return n.hyp(p.Index-at.ownHyps, at)
	}
	l := []string{strconv.Itoa(p.Kind), strconv.Itoa(p.Index), strconv.Itoa(p.Type.Kind)}
	for _, t := range p.Terms {
		l = append(l, n.term(t, at))
	}
	for _, f := range p.Forms {
		inside := at
		switch p.Kind {
		case api.ProofInd, api.ProofListInd, api.ProofSubst:
			inside = at.bound(1, 0)
		}
		l = append(l, n.form(f, inside))
	}
	for i, a := range p.Args {
		inside := at
		switch p.Kind {
		case api.ProofImpI:
			inside = at.bound(0, 1)
		case api.ProofAllI, api.ProofAllUI:
			inside = at.bound(1, 0)
		case api.ProofExE, api.ProofExUE, api.ProofInd:
			inside = at.bound(i, i)
		case api.ProofListInd:
			inside = at.bound(2*i, i)
		}
		l = append(l, n.proof(a, inside))
	}
	return "{" + strings.Join(l, " ") + "}"
}

func variableName(i int, _ scope) string { return "x" + strconv.Itoa(i) }

func hypName(i int, _ scope) string { return "y" + strconv.Itoa(i) }

// text returns a proof as a text with its own names.
func text(p api.Proof) string {
	return names{variableName, hypName}.proof(p, scope{})
}

// raised returns the names of what is greater by by from a number on.
func raised(name func(i int, at scope) string, from, by int) func(i int, at scope) string {
	return func(i int, at scope) string {
		if i >= from {
			i += by
		}
		return name(i, at)
	}
}

// instead returns the names of what is one less behind a number, and a text for this number itself.
func instead(name func(i int, at scope) string, n int, text func(at scope) string) func(i int, at scope) string {
	return func(i int, at scope) string {
		if i == n {
			return text(at)
		}
		return raised(name, n, -1)(i, at)
	}
}

// P10.2 and P10.3: with names instead of numbers, lifting and putting in are other names for what is free.
func TestMeaning(t *testing.T) {
	parts := []api.Term{v(0), zero, lam(nat, app(v(0), v(1), v(3))), pair(v(1), lam(list, lam(nat, v(2))))}
	proofs := []api.Proof{hyp(0), andI(hyp(2), refl(v(1))), impI(eq(v(0), lam(nat, v(1))), under(api.ProofAllUI, list, andI(hyps(0, 1, 3), refl(app(v(0), v(1)))))), lemma(4)}
	for i, p := range many() {
		n := i % 4
		what := strconv.Itoa(i) + " at " + strconv.Itoa(n)
		lifted, err := proof.Lift(p, n, 3)
		must(t, what+": Lift", []any{text(lifted), err}, []any{names{raised(variableName, n, 3), hypName}.proof(p, scope{}), api.OK})
		lifted, err = proof.LiftHyps(p, n, 3)
		must(t, what+": LiftHyps", []any{text(lifted), err}, []any{names{variableName, raised(hypName, n, 3)}.proof(p, scope{}), api.OK})
		for _, s := range parts {
			got, err := proof.Put(p, n, s)
			inside := func(at scope) string {
				return names{variable: raised(variableName, 0, n)}.term(s, at.outer())
			}
			must(t, what+": Put", []any{text(got), err}, []any{names{instead(variableName, n, inside), hypName}.proof(p, scope{}), api.OK})
		}
		for _, q := range proofs {
			got, err := proof.PutHyp(p, n, q)
			inside := func(at scope) string {
				return names{variableName, raised(hypName, 0, n)}.proof(q, at.outer())
			}
			must(t, what+": PutHyp", []any{text(got), err}, []any{names{variableName, instead(hypName, n, inside)}.proof(p, scope{}), api.OK})
		}
	}
}

// P10.1: Uses, Hyps and Lemmas have what the text has.
func TestFound(t *testing.T) {
	for i, p := range many() {
		uses, free := map[int]bool{}, map[int]bool{}
		names{
			func(i int, _ scope) string { uses[i] = true; return "" },
			func(i int, _ scope) string { free[i] = true; return "" },
		}.proof(p, scope{})
		a, e1 := proof.Uses(p)
		b, e2 := proof.Hyps(p)
		c, e3 := proof.Lemmas(p)
		must(t, strconv.Itoa(i), []any{a, b, c, e1, e2, e3}, []any{sorted(uses), sorted(free), sorted(lemmasOf(p)), api.OK, api.OK, api.OK})
	}
}

// sorted returns the numbers of a set, ascending.
func sorted(found map[int]bool) []int { return slices.Sorted(maps.Keys(found)) }

// lemmasOf returns the numbers of the lemmas of a proof.
func lemmasOf(p api.Proof) map[int]bool {
	found := map[int]bool{}
	if p.Kind == api.ProofLemma {
		found[p.Index] = true
	}
	for _, a := range p.Args {
		maps.Copy(found, lemmasOf(a))
	}
	return found
}

// The chapter's consequences: Put and Lift do not change hypotheses and lemmas.
func TestHypsStay(t *testing.T) {
	for i, p := range many() {
		hyps, _ := proof.Hyps(p)
		lemmas, _ := proof.Lemmas(p)
		lifted, _ := proof.Lift(p, i%3, 4)
		put, _ := proof.Put(p, i%3, lam(nat, app(v(0), v(1))))
		for _, q := range []api.Proof{lifted, put} {
			a, e1 := proof.Hyps(q)
			b, e2 := proof.Lemmas(q)
			must(t, strconv.Itoa(i), []any{a, b, e1, e2}, []any{hyps, lemmas, api.OK, api.OK})
		}
	}
}

// The chapter's consequences: PutHyp of a hypothesis that is not used makes the others one less, and changes nothing else, whatever is put there.
func TestPutHypOfNone(t *testing.T) {
	q := andI(hyps(0, 3), refl(v(2)))
	for i, p := range many() {
		for n := range 4 {
			what := strconv.Itoa(i) + " at " + strconv.Itoa(n)
			lifted, _ := proof.LiftHyps(p, n, 1)
			back, err := proof.PutHyp(lifted, n, q)
			mustProof(t, what+": PutHyp of LiftHyps", back, err, p, api.OK)
			if hyps, _ := proof.Hyps(p); !slices.Contains(hyps, n) {
				less, err := proof.PutHyp(p, n, q)
				same, _ := proof.LiftHyps(less, n, 1)
				mustProof(t, what+": LiftHyps of PutHyp", same, err, p, api.OK)
			}
			lifted, _ = proof.Lift(p, n, 1)
			back, err = proof.Put(lifted, n, succ(v(4)))
			mustProof(t, what+": Put of Lift", back, err, p, api.OK)
		}
	}
}

// What chapter 3 says of Put and Put holds for proofs, and so it does for PutHyp and PutHyp, and for Put and PutHyp.
func TestPutAndPut(t *testing.T) {
	s, r := pair(v(0), lam(nat, app(v(0), v(1), v(2)))), lam(list, app(v(1), v(0)))
	q, u := impI(eq(v(0), v(1)), andI(hyps(0, 1, 2), refl(v(0)))), andI(hyps(1, 0), under(api.ProofAllI, nat, refl(app(v(0), v(1)))))
	for i, p := range many() {
		if i%5 != 0 {
			continue
		}
		for a := range 3 {
			for b := a; b < 4; b++ {
				what := strconv.Itoa(i) + " at " + strconv.Itoa(a) + " and " + strconv.Itoa(b)
				once, _ := proof.Put(p, a, s)
				want, err := proof.Put(once, b, r)
				must(t, what, err, api.OK)
				once, _ = proof.Put(p, b+1, r)
				part, _ := subst.Put(s, b-a, r)
				got, err := proof.Put(once, a, part)
				mustProof(t, what+": Put", got, err, want, api.OK)

				once, _ = proof.PutHyp(p, a, q)
				want, err = proof.PutHyp(once, b, u)
				must(t, what, err, api.OK)
				once, _ = proof.PutHyp(p, b+1, u)
				inside, _ := proof.PutHyp(q, b-a, u)
				got, err = proof.PutHyp(once, a, inside)
				mustProof(t, what+": PutHyp", got, err, want, api.OK)

				once, _ = proof.PutHyp(p, a, q)
				want, err = proof.Put(once, b, r)
				must(t, what, err, api.OK)
				once, _ = proof.Put(p, b, r)
				inside, _ = proof.Put(q, b, r)
				got, err = proof.PutHyp(once, a, inside)
				mustProof(t, what+": Put of PutHyp", got, err, want, api.OK)
			}
		}
	}
}

// results returns all that the calls return for a proof, another one and a term.
func results(p, q api.Proof, s api.Term) []any {
	size, e1 := proof.Size(p)
	a, e2 := proof.Lift(p, 1, 2)
	b, e3 := proof.Put(p, 1, s)
	c, e4 := proof.LiftHyps(p, 1, 2)
	d, e5 := proof.PutHyp(p, 1, q)
	uses, e6 := proof.Uses(p)
	hyps, e7 := proof.Hyps(p)
	lemmas, e8 := proof.Lemmas(p)
	l := []any{proof.Check(p), proof.Same(p, q), size, uses, hyps, lemmas, []api.Errno{e1, e2, e3, e4, e5, e6, e7, e8}}
	for _, x := range []api.Proof{a, b, c, d} {
		l = append(l, samples.DeepProof(x))
	}
	return l
}

// R2: arguments stay as they are, and so does what stands behind the ends of their slices. R4: the same call returns the same.
func TestArguments(t *testing.T) {
	q := samples.MarkedProof(impI(eq(v(0), v(1)), andI(hyps(0, 1), having(api.ProofInd, eq(v(0), v(2)), v(1), lemma(3), refl(lam(nat, app(v(0), v(1))))))))
	s := samples.MarkedTerm(lam(nat, app(v(0), v(1), v(2))))
	oldQ, oldS := samples.DeepProof(q), samples.Deep(s)
	l := append(many(), samples.WrongProofs()[:200]...)
	for i, p := range l {
		marked := samples.MarkedProof(p)
		first := results(marked, q, s)
		must(t, strconv.Itoa(i)+": again", results(marked, q, s), first)
		must(t, strconv.Itoa(i)+": of a copy", results(samples.DeepProof(p), oldQ, oldS), first)
		must(t, strconv.Itoa(i)+": argument", samples.DeepProof(marked), samples.DeepProof(p))
		must(t, strconv.Itoa(i)+": behind the ends", samples.ProofIsMarked(marked), true)
	}
	must(t, "others", []any{samples.DeepProof(q), samples.Deep(s)}, []any{oldQ, oldS})
	must(t, "behind the ends of others", samples.ProofIsMarked(q) && samples.TermIsMarked(s), true)
}

// R2: results may share memory with arguments, but a call that follows does not change them.
func TestResultsStay(t *testing.T) {
	for i, p := range many() {
		if i%4 != 0 {
			continue
		}
		a, _ := proof.Lift(p, 0, 1)
		b, _ := proof.PutHyp(a, 0, p)
		c, _ := proof.Put(b, 0, succ(v(0)))
		old := []api.Proof{samples.DeepProof(a), samples.DeepProof(b), samples.DeepProof(c)}
		for _, x := range []api.Proof{a, b, c} {
			proof.Lift(x, 0, 9)
			proof.LiftHyps(x, 0, 9)
			proof.Put(x, 0, zero)
			proof.PutHyp(x, 0, lemma(0))
		}
		must(t, strconv.Itoa(i), []api.Proof{samples.DeepProof(a), samples.DeepProof(b), samples.DeepProof(c)}, old)
	}
}
