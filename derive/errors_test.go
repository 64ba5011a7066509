package derive_test

import (
	"fmt"
	"runtime"
	"slices"
	"strconv"
	"testing"

	"proofprograms/api"
	"proofprograms/derive"
	"proofprograms/formula"
	"proofprograms/kernel"
	"proofprograms/proof"
	"proofprograms/samples"
	"proofprograms/terms"
)

// right returns valid arguments of a function.
func (x function) right() []any {
	var l []any
	for _, kind := range x.kinds {
		switch kind {
		case 't':
			l = append(l, v(0))
		case 'p':
			l = append(l, hyp(0))
		default:
			l = append(l, eq(v(0), v(1)))
		}
	}
	return l
}

// check returns the first error of Check of arguments, from left to right.
func check(l []any) api.Errno {
	for _, a := range l {
		var err api.Errno
		switch a := a.(type) {
		case api.Term:
			err = terms.Check(a)
		case api.Formula:
			err = formula.Check(a)
		case api.Proof:
			err = proof.Check(a)
		}
		if err != api.OK {
			return err
		}
	}
	return api.OK
}

// refuses fails the test if a call does not return an error, or something else beside it.
func (x function) refuses(t *testing.T, what string, l []any, want api.Errno) {
	t.Helper()
	p, err := x.call(l)
	must(t, x.name+": "+what, []any{p, err}, []any{api.Proof{}, want})
}

// An invalid argument, and its error.
type invalid struct {
	a   any
	err api.Errno
}

// wrong returns arguments of a kind that are not valid, or too large, with what is wrong at their roots or further down.
func wrong(kind rune) []invalid {
	var l []any
	switch kind {
	case 't':
		for _, a := range samples.WrongTerms() {
			l = append(l, a, succ(a), app(lam(nat, v(0)), rec(nat, zero, v(1), succ(a))))
		}
		l = append(l, num(4096), samples.Full(12), samples.Above(1<<16, v(0)))
	case 'p':
		for i, a := range samples.WrongProofs() {
			l = append(l, []any{a, andI(hyp(0), a), impI(falsum(), rule(api.ProofExE, a, hyp(0)))}[i%3])
		}
		for i, f := range samples.WrongFormulas() {
			l = append(l, rule(api.ProofAndL, impI(imp(falsum(), all(nat, f)), hyp(i))))
		}
		for _, a := range samples.LargeProofs() {
			l = append(l, a)
		}
	default:
		for _, a := range samples.WrongFormulas() {
			l = append(l, a, and(falsum(), a), all(nat, imp(ex(list, a), falsum())))
		}
		for _, a := range samples.LargeFormulas() {
			l = append(l, a)
		}
	}
	var r []invalid
	for _, a := range l {
		r = append(r, invalid{a, check([]any{a})})
	}
	return r
}

// P12.4: the error of Check of each argument, alone.
func TestWrongArguments(t *testing.T) {
	found := map[rune][]invalid{}
	for _, kind := range "tfp" {
		found[kind] = wrong(kind)
		must(t, "valid", slices.ContainsFunc(found[kind], func(x invalid) bool { return x.err == api.OK }), false)
	}
	found['b'] = found['f']
	for n, x := range functions() {
		for i, kind := range x.kinds {
			for j, a := range found[kind] {
				if kind != 't' && (i+j+n)%9 > 0 {
					continue // there are very many, and some are very large
				}
				l := x.right()
				l[i] = a.a
				x.refuses(t, fmt.Sprint(i, " ", j), l, a.err)
			}
		}
	}
}

// bad returns an argument of a kind with an error.
func bad(kind byte, err api.Errno) any {
	tall := err == api.ErrSize
	switch {
	case kind == 't' && tall:
		return num(4096)
	case kind == 't':
		return api.Term{}
	case kind == 'p' && tall:
		return refl(num(4096))
	case kind == 'p':
		return api.Proof{}
	case tall:
		return eq(num(4093), num(1))
	}
	return api.Formula{}
}

// P12.4: of several wrong arguments beside each other the first one decides.
func TestOrderOfErrors(t *testing.T) {
	errs := []api.Errno{api.ErrForm, api.ErrSize}
	for _, x := range functions() {
		for i := range x.kinds {
			for j := range i {
				for _, first := range errs {
					for _, second := range errs {
						l := x.right()
						l[j], l[i] = bad(x.kinds[j], first), bad(x.kinds[i], second)
						x.refuses(t, fmt.Sprint(j, " before ", i), l, first)
					}
				}
			}
			l := x.right()
			for j := i; j < len(l); j++ {
				l[j] = bad(x.kinds[j], errs[(i+j)%2])
			}
			x.refuses(t, "all from "+strconv.Itoa(i), l, errs[(i+i)%2])
		}
	}
}

// any returns arguments of a function that fulfil no conditions, but are valid, and have at most about depth nodes above each other.
func (x function) any(c *samples.Choices, depth int) []any {
	var l []any
	for _, kind := range x.kinds {
		switch kind {
		case 't':
			l = append(l, c.Mixed(1+c.Below(depth)))
		case 'p':
			l = append(l, c.Tree(1+c.Below(depth)))
		default:
			l = append(l, c.Loose(1+c.Below(depth)))
		}
	}
	return l
}

// P12.4, and the chapter's consequences: what does not fulfil the conditions leads to some proof, or to an error, and what is returned uses nothing but what the arguments use.
func TestAnything(t *testing.T) {
	made := 0
	for i := range 3000 {
		c := &samples.Choices{State: uint64(i)}
		lemmas, s := c.Sequent()
		x := functions()[i%len(functions())]
		l := x.any(c, 4)
		what := x.name + " " + strconv.Itoa(i)
		want := check(l)
		p, err := x.call(l)
		if want != api.OK {
			must(t, what, []any{p, err}, []any{api.Proof{}, want})
			continue
		}
		if err != api.OK {
			must(t, what, []any{p, err}, []any{api.Proof{}, api.ErrSize})
			continue
		}
		made++
		x.little(t, what, p, l)
		kernel.Infer(lemmas, s, p)
	}
	if made < 2500 {
		t.Errorf("only %d proofs", made)
	}
}

// P12.4: no other errors than those that are named, also for variables and hypotheses with Indexes that are too great to be lifted; no sequent has these.
func TestFar(t *testing.T) {
	for _, x := range functions() {
		for _, far := range []int{1<<29 - 40, 1<<29 - 1, 1 << 29, 1<<29 + 1, 1 << 40, 1<<63 - 2, 1<<63 - 1} {
			for i, kind := range x.kinds {
				var l []any
				switch kind {
				case 't':
					l = append(l, v(far), succ(lam(nat, v(far))))
				case 'p':
					l = append(l, hyp(far), refl(v(far)), impI(eq(v(far), zero), andI(hyp(far), lemma(far))), under(api.ProofAllI, nat, refl(v(far))))
				default:
					l = append(l, eq(v(far), zero), all(nat, imp(falsum(), eq(zero, v(far)))), ex(nat, ex(list, eq(v(far), v(far)))))
				}
				for j, a := range l {
					args := x.right()
					args[i] = a
					what := fmt.Sprint(x.name, " ", i, " ", j, " ", far)
					p, err := x.call(args)
					must(t, what, err, api.OK)
					x.little(t, what, p, args)
				}
			}
		}
	}
}

// P12.4: ErrSize where a formula of the proof would be too large, behind the errors of all arguments.
func TestTooLargeFormulas(t *testing.T) {
	tall := eq(num(4093), zero)
	for name, l := range map[string][]any{
		"Sym":       {num(2047), num(2047), hyp(0)},
		"Trans":     {zero, num(2047), num(2047), hyp(0), hyp(0)},
		"Cong":      {num(4000), num(50), num(50), hyp(0)},
		"Injective": {num(4095), zero, hyp(0)},
		"Absurd":    {num(4095), hyp(0)},
		"Left":      {tall, falsum(), hyp(0)},
		"Right":     {falsum(), tall, hyp(0)},
		"Cases":     {tall, falsum(), falsum(), hyp(0), hyp(0), hyp(0)},
	} {
		x := named(name)
		must(t, name, check(l), api.OK)
		x.refuses(t, "too large", l, api.ErrSize)
		l = slices.Clone(l)
		l[len(l)-1] = rule(api.ProofAndL)
		x.refuses(t, "not valid", l, api.ErrForm)
	}
}

// Things that exist inside each other: their formulas alone have far more nodes than a proof may have, and are not all made.
func TestDeepFormulas(t *testing.T) {
	deep := falsum()
	for range 4000 {
		deep = ex(nat, deep)
	}
	for name, l := range map[string][]any{
		"ExFalso": {deep, hyp(0)},
		"Left":    {falsum(), and(deep, falsum()), hyp(0)},
		"Right":   {imp(falsum(), deep), falsum(), hyp(0)},
	} {
		var before, after runtime.MemStats
		runtime.ReadMemStats(&before)
		named(name).refuses(t, "deep", l, api.ErrSize)
		runtime.ReadMemStats(&after)
		if made := after.TotalAlloc - before.TotalAlloc; made > 1<<26 {
			t.Errorf("%s makes %d bytes", name, made)
		}
	}
	many := samples.Alls(4000, falsum())
	p, err := derive.ExFalso(many, hyp(0))
	must(t, "all", []any{err, proof.Check(p)}, []any{api.OK, api.OK})
	must(t, "all", kernel.Accepts(nil, api.Sequent{Hyps: []api.Formula{falsum()}}, p, many), api.ErrLimit)
}
