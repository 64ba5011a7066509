package kernel_test

import (
	"maps"
	"slices"

	"proofprograms/api"
	"proofprograms/class"
	"proofprograms/formula"
	"proofprograms/kernel"
	"proofprograms/proof"
	"proofprograms/reduce"
	"proofprograms/subst"
	"proofprograms/types"
)

// A naive reads the chapter's table line by line: hypotheses are lifted where a variable is bound, uses are sets of numbers, and the first error is a panic.
type naive struct{ lemmas, hyps []api.Formula }

// A seen is what a proof proves, and uses, in a context that is told with it.
type seen struct {
	f    api.Formula
	uses map[int]bool
}

// ok panics with an error.
func ok(err api.Errno) {
	if err != api.OK {
		panic(err)
	}
}

// that panics with an error if something is not the case.
func that(is bool, err api.Errno) {
	if !is {
		panic(err)
	}
}

// sure returns a result without an error.
func sure[T any](x T, err api.Errno) T {
	ok(err)
	return x
}

// naively returns what the chapter's table says of a proof.
func naively(lemmas []api.Formula, s api.Sequent, p api.Proof) (got api.Proved, err api.Errno) {
	defer func() {
		if x := recover(); x != nil {
			got, err = api.Proved{}, x.(api.Errno)
		}
	}()
	ok(kernel.Sequent(lemmas, s))
	ok(proof.Check(p))
	x := naive{lemmas, s.Hyps}.proof(s.Types, p)
	return api.Proved{Formula: x.f, Uses: slices.Sorted(maps.Keys(x.uses))}, api.OK
}

// small returns a type, or panics if it is too large.
func small(s api.Type) api.Type { return sure(s, types.Check(s)) }

// typeIn returns the type of a term in a context of any length.
func typeIn(context []api.Type, t api.Term) api.Type {
	if t.Kind == api.TermVar {
		that(t.Index < len(context), api.ErrScope)
		return context[len(context)-1-t.Index]
	}
	if t.Kind == api.TermLam {
		return small(fun(t.Type, typeIn(append(slices.Clone(context), t.Type), t.Args[0])))
	}
	var parts []api.Type
	for _, a := range t.Args {
		parts = append(parts, typeIn(context, a))
	}
	same := func(i int, s api.Type) { that(types.Same(parts[i], s), api.ErrType) }
	switch t.Kind {
	case api.TermApp:
		that(parts[0].Kind == api.TypeFun, api.ErrType)
		same(1, parts[0].Args[0])
		return parts[0].Args[1]
	case api.TermSucc:
		same(0, nat)
	case api.TermCons:
		same(0, nat)
		same(1, list)
	case api.TermRec:
		same(0, t.Type)
		same(1, fun(nat, fun(t.Type, t.Type)))
		same(2, nat)
		return t.Type
	case api.TermFold:
		same(0, t.Type)
		same(1, fun(nat, fun(list, fun(t.Type, t.Type))))
		same(2, list)
		return t.Type
	case api.TermPair:
		return small(both(parts[0], parts[1]))
	case api.TermFst, api.TermSnd:
		that(parts[0].Kind == api.TypePair, api.ErrType)
		return parts[0].Args[t.Kind-api.TermFst]
	}
	return map[int]api.Type{api.TermZero: nat, api.TermSucc: nat, api.TermNil: list, api.TermCons: list, api.TermUnit: unit}[t.Kind]
}

// typedIn panics with the first error of a formula in a context of any length.
func typedIn(context []api.Type, f api.Formula) {
	if f.Kind >= api.FormAll {
		context = append(slices.Clone(context), f.Type)
	}
	for _, t := range f.Terms {
		that(typeIn(context, t).Kind == api.TypeNat, api.ErrType)
	}
	for _, a := range f.Args {
		typedIn(context, a)
	}
}

// normalIn returns a formula with all its terms in normal form, and whether a variable is free in that.
func normalIn(f api.Formula, variable int) (api.Formula, bool) {
	if f.Kind >= api.FormAll {
		variable++
	}
	found := false
	n := api.Formula{Kind: f.Kind, Type: f.Type}
	for _, t := range f.Terms {
		u, _, err := reduce.Normal(t, api.MaxSteps)
		ok(err)
		uses, _ := subst.Uses(u)
		found = found || slices.Contains(uses, variable)
		n.Terms = append(n.Terms, u)
	}
	for _, a := range f.Args {
		u, in := normalIn(a, variable)
		found = found || in
		n.Args = append(n.Args, u)
	}
	return n, found
}

// out returns the uses of a part below n variables, as they are outside.
func (x seen) out(n int) map[int]bool {
	m := map[int]bool{}
	for i := range x.uses {
		if i >= n {
			m[i-n] = true
		}
	}
	return m
}

// union returns the union of sets.
func union(l ...map[int]bool) map[int]bool {
	m := map[int]bool{}
	for _, x := range l {
		maps.Copy(m, x)
	}
	return m
}

// vars returns the free variables of a term.
func vars(t api.Term) map[int]bool {
	m := map[int]bool{}
	for _, i := range sure(subst.Uses(t)) {
		m[i] = true
	}
	return m
}

// bind returns the naive below variables that are bound, with one more hypothesis if there is one, and its context.
func (n naive) bind(g []api.Type, bound []api.Type, hyps ...api.Formula) (naive, []api.Type) {
	that(len(g)+len(bound) <= 16 && len(n.hyps)+len(hyps) <= 16, api.ErrLimit)
	var l []api.Formula
	for _, h := range n.hyps {
		for range bound {
			h = sure(formula.Lift(h, 0, 1))
		}
		l = append(l, h)
	}
	return naive{n.lemmas, append(l, hyps...)}, append(slices.Clone(g), bound...)
}

func (n naive) proof(g []api.Type, p api.Proof) seen {
	x := n.node(g, p)
	ok(formula.Check(x.f))
	if !sure(class.Content(x.f)) {
		x.uses = nil
	}
	return x
}

// matching panics if what a proof proves does not match a formula with a term in place of the variable 0.
func (n naive) matching(g []api.Type, p api.Proof, f api.Formula, t api.Term) seen {
	x := n.proof(g, p)
	ok(formula.Match(sure(formula.Put(f, 0, t)), x.f))
	return x
}

// shaped panics if what a proof proves has another kind.
func (n naive) shaped(g []api.Type, p api.Proof, kind int) seen {
	x := n.proof(g, p)
	that(x.f.Kind == kind, api.ErrShape)
	return x
}

func (n naive) node(g []api.Type, p api.Proof) seen {
	switch p.Kind {
	case api.ProofHyp:
		that(p.Index < len(n.hyps), api.ErrHyp)
		return seen{f: n.hyps[len(n.hyps)-1-p.Index]}
	case api.ProofLemma:
		that(p.Index < len(n.lemmas), api.ErrLemma)
		return seen{f: n.lemmas[p.Index]}
	case api.ProofAndI:
		a := n.proof(g, p.Args[0])
		b := n.proof(g, p.Args[1])
		return seen{and(a.f, b.f), union(a.uses, b.uses)}
	case api.ProofAndL:
		x := n.shaped(g, p.Args[0], api.FormAnd)
		return seen{x.f.Args[0], x.uses}
	case api.ProofAndR:
		x := n.shaped(g, p.Args[0], api.FormAnd)
		return seen{x.f.Args[1], x.uses}
	case api.ProofImpI:
		typedIn(g, p.Forms[0])
		m, g := n.bind(g, nil, p.Forms[0])
		x := m.proof(g, p.Args[0])
		return seen{imp(p.Forms[0], x.f), x.uses}
	case api.ProofImpE:
		a := n.shaped(g, p.Args[0], api.FormImp)
		b := n.proof(g, p.Args[1])
		ok(formula.Match(a.f.Args[0], b.f))
		return seen{a.f.Args[1], union(a.uses, b.uses)}
	case api.ProofRefl:
		that(types.Same(typeIn(g, p.Terms[0]), nat), api.ErrType)
		return seen{f: eq(p.Terms[0], p.Terms[0])}
	case api.ProofSubst:
		typedIn(append(slices.Clone(g), nat), p.Forms[0])
		a := n.shaped(g, p.Args[0], api.FormEq)
		b := n.matching(g, p.Args[1], p.Forms[0], a.f.Terms[0])
		return seen{sure(formula.Put(p.Forms[0], 0, a.f.Terms[1])), b.uses}
	case api.ProofChoice:
		x := n.shaped(g, p.Args[0], api.FormAll)
		that(x.f.Args[0].Kind == api.FormEx, api.ErrShape)
		s, u := x.f.Type, x.f.Args[0].Type
		body := sure(formula.Put(sure(formula.Lift(x.f.Args[0].Args[0], 2, 1)), 0, app(v(1), v(0))))
		small(fun(s, u))
		return seen{ex(fun(s, u), all(s, body)), x.uses}
	case api.ProofInd, api.ProofListInd:
		return n.induction(g, p)
	}
	return n.quantifier(g, p)
}

func (n naive) quantifier(g []api.Type, p api.Proof) seen {
	switch p.Kind {
	case api.ProofAllI:
		m, inside := n.bind(g, []api.Type{p.Type})
		x := m.proof(inside, p.Args[0])
		return seen{all(p.Type, x.f), x.out(1)}
	case api.ProofAllUI:
		m, inside := n.bind(g, []api.Type{p.Type})
		x := m.proof(inside, p.Args[0])
		that(!x.uses[0], api.ErrUse)
		return seen{quant(api.FormAllU, p.Type, x.f), x.out(1)}
	case api.ProofAllE, api.ProofAllUE:
		s := typeIn(g, p.Terms[0])
		x := n.shaped(g, p.Args[0], map[int]int{api.ProofAllE: api.FormAll, api.ProofAllUE: api.FormAllU}[p.Kind])
		that(types.Same(x.f.Type, s), api.ErrType)
		uses := x.uses
		if p.Kind == api.ProofAllE {
			uses = union(uses, vars(p.Terms[0]))
		}
		return seen{sure(formula.Put(x.f.Args[0], 0, p.Terms[0])), uses}
	case api.ProofExI, api.ProofExUI:
		f := p.Forms[0]
		typedIn(g, f)
		that(f.Kind == map[int]int{api.ProofExI: api.FormEx, api.ProofExUI: api.FormExU}[p.Kind], api.ErrShape)
		that(types.Same(typeIn(g, p.Terms[0]), f.Type), api.ErrType)
		x := n.matching(g, p.Args[0], f.Args[0], p.Terms[0])
		if p.Kind == api.ProofExI {
			return seen{f, union(x.uses, vars(p.Terms[0]))}
		}
		return seen{f, x.uses}
	}
	x := n.shaped(g, p.Args[0], map[int]int{api.ProofExE: api.FormEx, api.ProofExUE: api.FormExU}[p.Kind])
	m, inside := n.bind(g, []api.Type{x.f.Type}, x.f.Args[0])
	y := m.proof(inside, p.Args[1])
	if uses := sure(formula.Uses(y.f)); slices.Contains(uses, 0) {
		f, found := normalIn(y.f, 0)
		that(!found, api.ErrScope)
		y.f = f
	}
	that(p.Kind == api.ProofExE || !y.uses[0], api.ErrUse)
	return seen{sure(formula.Lower(y.f, 0)), union(x.uses, y.out(1))}
}

func (n naive) induction(g []api.Type, p api.Proof) seen {
	f, t, s := p.Forms[0], p.Terms[0], nat
	first, next, bound := zero, succ(v(0)), []api.Type{nat}
	if p.Kind == api.ProofListInd {
		s, first, next, bound = list, none, cons(v(1), v(0)), []api.Type{nat, list}
	}
	typedIn(append(slices.Clone(g), s), f)
	that(types.Same(typeIn(g, t), s), api.ErrType)
	x := n.matching(g, p.Args[0], f, first)
	h := sure(formula.Lift(f, 1, len(bound)-1))
	m, inside := n.bind(g, bound, h)
	y := m.matching(inside, p.Args[1], sure(formula.Lift(f, 1, len(bound))), next)
	return seen{sure(formula.Put(f, 0, t)), union(vars(t), x.uses, y.out(len(bound)))}
}
