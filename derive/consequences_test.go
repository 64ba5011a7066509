package derive_test

import (
	"fmt"
	"slices"
	"strconv"
	"testing"

	"proofprograms/api"
	"proofprograms/derive"
	"proofprograms/formula"
	"proofprograms/kernel"
	"proofprograms/proof"
	"proofprograms/samples"
	"proofprograms/subst"
	"proofprograms/value"
)

// scene makes calls that fulfil the conditions in a place, to which it adds the hypotheses that it needs.
type scene struct {
	*samples.Choices
	place
}

// newScene returns one of many scenes.
func newScene(i int) *scene {
	g := &scene{&samples.Choices{State: uint64(i)}, place{}}
	g.lemmas, g.s = g.Sequent()
	return g
}

// number returns a term of the type Nat.
func (g *scene) number() api.Term { return g.OfType(g.s.Types, nat, 1+g.Below(3)) }

// formula returns a formula with some more variables behind the context.
func (g *scene) formula(behind ...api.Type) api.Formula {
	return g.Formula(slices.Concat(g.s.Types, behind), 1+g.Below(3))
}

// varied returns a formula that matches f, mostly after steps.
func (g *scene) varied(f api.Formula) api.Formula {
	f.Terms = slices.Clone(f.Terms)
	for i, t := range f.Terms {
		f.Terms[i] = []api.Term{t, t, id(t), slower(t), app(value.Pred(), succ(t)), app(value.Plus(), t, zero)}[g.Below(6)]
	}
	f.Args = slices.Clone(f.Args)
	for i, a := range f.Args {
		f.Args[i] = g.varied(a)
	}
	return f
}

// proof returns a proof that the kernel accepts for f, by a new hypothesis, below up to two other steps.
func (g *scene) proof(f api.Formula) api.Proof {
	// The new one comes before the others, so that these keep their numbers.
	p := hyp(len(g.s.Hyps))
	g.s.Hyps = append([]api.Formula{g.varied(f)}, g.s.Hyps...)
	for range g.Below(3) {
		p = g.around(p)
	}
	return p
}

// around returns another proof of what a proof proves, or, if the kernel refuses that one, the same proof.
func (g *scene) around(p api.Proof) api.Proof {
	got, err := kernel.Infer(g.lemmas, g.s, p)
	if err != api.OK {
		return p
	}
	f := got.Formula
	other, c := g.Proven(g.lemmas, g.s, 2+g.Below(2))
	if g.Below(2) == 0 { // what exists is a number with variables, which are used then
		s := g.number()
		c = ex(nat, eq(v(0), samples.Up(s, 0)))
		other = having(api.ProofExI, c, s, refl(s))
	}
	hypothesis, _ := proof.LiftHyps(p, 0, 1)
	below, _ := proof.Lift(p, 0, 1)
	q := []api.Proof{
		rule(api.ProofAndL, andI(p, other)), rule(api.ProofAndR, andI(other, p)), rule(api.ProofImpE, impI(c, hypothesis), other),
		rule(api.ProofImpE, impI(g.varied(f), hyp(0)), p), at(api.ProofAllE, g.number(), under(api.ProofAllI, nat, below)),
		rewrite(lift(g.varied(f), 0, 1), refl(g.number()), p),
	}[g.Below(6)]
	if _, err := kernel.Infer(g.lemmas, g.s, q); err != api.OK {
		return p
	}
	return q
}

// request returns a call of a function, and what is proved by what it returns.
func (g *scene) request(name string) ([]any, api.Formula) {
	s, t, u := g.number(), g.number(), g.number()
	a, b, c := g.formula(), g.formula(), g.formula()
	switch name {
	case "Sym":
		return []any{s, t, g.proof(eq(s, t))}, eq(t, s)
	case "Trans":
		return []any{s, t, u, g.proof(eq(s, t)), g.proof(eq(t, u))}, eq(s, u)
	case "Cong":
		f := g.OfType(g.s.Types, fun(nat, nat), 1+g.Below(3))
		return []any{f, s, t, g.proof(eq(s, t))}, eq(app(f, s), app(f, t))
	case "Injective":
		return []any{s, t, g.proof(eq(succ(s), succ(t)))}, eq(s, t)
	case "Absurd":
		return []any{t, g.proof(eq(zero, succ(t)))}, falsum()
	case "ExFalso":
		return []any{a, g.proof(falsum())}, a
	case "Left":
		return []any{a, b, g.proof(a)}, or(a, b)
	case "Right":
		return []any{a, b, g.proof(b)}, or(a, b)
	case "Cases":
		return []any{a, b, c, g.proof(or(a, b)), g.proof(imp(a, c)), g.proof(imp(b, c))}, c
	case "Numbers":
		f := g.formula(nat)
		return []any{f, g.proof(put(f, zero)), g.proof(next(f))}, all(nat, f)
	}
	f := g.formula(list)
	return []any{f, g.proof(put(f, none)), g.proof(longer(f))}, all(list, f)
}

// A derived is the result of a call, with the place, what was given, and what it proves.
type derived struct {
	what string
	place
	x    function
	l    []any
	p    api.Proof
	want api.Formula
}

// many returns the results of many calls that fulfil the conditions.
func many(t *testing.T, n int) []derived {
	t.Helper()
	var l []derived
	for i := range n {
		g, x := newScene(i), functions()[i%len(functions())]
		what := x.name + " " + strconv.Itoa(i)
		args, f := g.request(x.name)
		p, err := x.call(args)
		if err != api.OK {
			t.Errorf("%s: %d", what, err)
			continue
		}
		l = append(l, derived{what, g.place, x, args, p, f})
	}
	return l
}

// P12.1 to P12.4: what is returned is accepted, and uses nothing but what was handed in; no limit is met with proofs so small.
func TestMany(t *testing.T) {
	uses := 0
	for _, d := range many(t, 1650) {
		if err := kernel.Accepts(d.lemmas, d.s, d.p, d.want); err != api.OK {
			t.Errorf("%s: %d: %.600s", d.what, err, fmt.Sprint(d.want))
			continue
		}
		d.x.little(t, d.what, d.p, d.l)
		uses += d.unused(t, d.what, d.p, d.l)
	}
	if uses < 40 {
		t.Errorf("only %d uses", uses)
	}
}

// P12.2: proofs of all kinds that the kernel accepts, in place of hypotheses, with what they use.
func TestProofsOfAllKinds(t *testing.T) {
	uses := 0
	for i := range 800 {
		g := newScene(i)
		p, f := g.Proven(g.lemmas, g.s, 3+i%2)
		b, c := g.formula(), ex(nat, g.formula(nat))
		name := []string{"Left", "Right", "Cases", "Cases"}[i%4]
		var l []any
		want := or(f, b)
		switch i % 4 {
		case 0:
			l = []any{f, b, p}
		case 1:
			l, want = []any{b, f, p}, or(b, f)
		case 2: // p has one premise too few, and is what is proved from both
			up, _ := proof.LiftHyps(p, 0, 1)
			l, want = []any{b, c, f, g.proof(or(b, c)), impI(b, up), impI(g.varied(c), up)}, f
		case 3:
			l = []any{f, b, or(f, b), proved(derive.Left(f, b, p)), impI(f, proved(derive.Left(f, b, hyp(0)))), impI(b, proved(derive.Right(f, b, hyp(0))))}
		}
		x := named(name)
		q, err := x.call(l)
		if err == api.OK {
			err = kernel.Accepts(g.lemmas, g.s, q, want)
		}
		what := name + " " + strconv.Itoa(i)
		if err == api.ErrLimit || err == api.ErrSize {
			continue
		}
		must(t, what, err, api.OK)
		x.little(t, what, q, l)
		uses += g.unused(t, what, q, l)
	}
	if uses < 150 {
		t.Errorf("only %d uses", uses)
	}
}

// The chapter's consequences: what is returned stands below variables and with hypotheses: it stays accepted if these become more, with everything lifted accordingly, and if a term is put in place of a variable.
func TestBelow(t *testing.T) {
	for i, d := range many(t, 660) {
		c := &samples.Choices{State: uint64(i)}
		n := len(d.s.Types)
		s := c.Simple()
		types := slices.Insert(slices.Clone(d.s.Types), 0, s)
		p, err := proof.LiftHyps(d.p, 0, 1)
		must(t, d.what, err, api.OK)
		must(t, d.what+": more", kernel.Accepts(d.lemmas, api.Sequent{Types: types, Hyps: append(slices.Clone(d.s.Hyps), falsum())}, p, d.want), api.OK)

		term := c.OfType(d.s.Types[:n-1], nat, 2) // the last variable is a number
		var hyps []api.Formula
		for _, h := range d.s.Hyps {
			hyps = append(hyps, put(h, term))
		}
		p, err = proof.Put(d.p, 0, term)
		must(t, d.what, err, api.OK)
		if err := kernel.Accepts(d.lemmas, api.Sequent{Types: d.s.Types[:n-1], Hyps: hyps}, p, put(d.want, term)); err != api.OK && err != api.ErrSteps && err != api.ErrSize {
			t.Errorf("%s: put: %d", d.what, err)
		}
		// Calls with lifted arguments do what they did.
		hyps = nil
		for _, h := range d.s.Hyps {
			hyps = append(hyps, lift(h, 0, 1))
		}
		q, err := d.x.call(d.lifted())
		must(t, d.what, err, api.OK)
		must(t, d.what+": lifted", kernel.Accepts(d.lemmas, api.Sequent{Types: append(slices.Clone(d.s.Types), s), Hyps: hyps}, q, lift(d.want, 0, 1)), api.OK)
	}
}

// lifted returns what was given, below one more variable.
func (d derived) lifted() []any {
	var l []any
	for i, a := range d.l {
		switch a := a.(type) {
		case api.Term:
			t, _ := subst.Lift(a, 0, 1)
			l = append(l, t)
		case api.Formula:
			from := 0
			if d.x.kinds[i] == 'b' {
				from = 1
			}
			l = append(l, lift(a, from, 1))
		case api.Proof:
			p, _ := proof.Lift(a, 0, 1)
			l = append(l, p)
		}
	}
	return l
}

// R2: arguments stay as they are, and so does what stands behind the ends of their slices. R4: the same call returns the same.
func TestArguments(t *testing.T) {
	for _, d := range many(t, 550) {
		marked, old := make([]any, len(d.l)), make([]any, len(d.l))
		for i, a := range d.l {
			switch a := a.(type) {
			case api.Term:
				marked[i], old[i] = samples.MarkedTerm(a), samples.Deep(a)
			case api.Formula:
				marked[i], old[i] = samples.MarkedFormula(a), samples.DeepFormula(a)
			case api.Proof:
				marked[i], old[i] = samples.MarkedProof(a), samples.DeepProof(a)
			}
		}
		for range 2 {
			p, err := d.x.call(marked)
			must(t, d.what, []any{proof.Same(p, d.p), err}, []any{true, api.OK})
		}
		for i, a := range marked {
			var now any
			stays := false
			switch a := a.(type) {
			case api.Term:
				now, stays = samples.Deep(a), samples.TermIsMarked(a)
			case api.Formula:
				now, stays = samples.DeepFormula(a), samples.FormulaIsMarked(a)
			case api.Proof:
				now, stays = samples.DeepProof(a), samples.ProofIsMarked(a)
			}
			must(t, d.what+": argument", now, old[i])
			must(t, d.what+": behind the ends", stays, true)
		}
	}
}

// R2: results may share memory with arguments, but a call that follows does not change them; nil and empty slices are one.
func TestResultsStay(t *testing.T) {
	l := many(t, 330)
	var old []api.Proof
	for _, d := range l {
		old = append(old, samples.DeepProof(d.p))
	}
	for i, d := range l {
		// Results are handed in, and what was handed in is handed in again, with empty slices in place of nil.
		if _, err := derive.Left(d.want, falsum(), d.p); err != api.OK && err != api.ErrSize {
			t.Errorf("%s: %d", d.what, err)
		}
		args := slices.Clone(d.l)
		for j, a := range args {
			if q, ok := a.(api.Proof); ok {
				args[j] = emptied(q)
			}
		}
		p, err := d.x.call(args)
		must(t, d.what+": empty slices", []any{proof.Same(p, d.p), err}, []any{true, api.OK})
		must(t, d.what, samples.DeepProof(d.p), old[i])
	}
}

// emptied returns a proof with empty slices in place of nil.
func emptied(p api.Proof) api.Proof {
	p.Type.Args = append([]api.Type{}, p.Type.Args...)
	p.Terms = append([]api.Term{}, p.Terms...)
	p.Forms = append([]api.Formula{}, p.Forms...)
	p.Args = append([]api.Proof{}, p.Args...)
	for i, a := range p.Args {
		p.Args[i] = emptied(a)
	}
	return p
}

// Each result is exactly what is asked for, so that nothing that is put together with it takes more steps.
func TestExact(t *testing.T) {
	for _, d := range many(t, 660) {
		got, err := kernel.Infer(d.lemmas, d.s, d.p)
		must(t, d.what, err, api.OK)
		if !formula.Same(got.Formula, d.want) {
			t.Errorf("%s: %.300s, want %.300s", d.what, fmt.Sprint(got.Formula), fmt.Sprint(d.want))
		}
	}
}
