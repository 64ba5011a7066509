package derive_test

import (
	"fmt"
	"slices"
	"strconv"
	"testing"

	"proofprograms/api"
	"proofprograms/formula"
	"proofprograms/kernel"
	"proofprograms/proof"
	"proofprograms/reduce"
	"proofprograms/samples"
	"proofprograms/value"
)

// A request is a call that fulfils the conditions in the context of a number of numbers, with hypotheses of which the last ones are those that it asks for.
type request struct {
	what, name string
	hyps       []api.Formula
	f          api.Formula
	l          []any
	// How many more variables and hypotheses what is returned needs.
	variables, room int
}

// requests returns some of each function.
func requests() []request {
	s, t := v(0), app(value.Plus(), v(1), num(2))
	a, b, c, x := eq(s, t), ex(nat, eq(v(0), v(1))), ex(list, eq(v(2), v(2))), eq(v(1), v(0))
	return []request{
		{"", "Sym", []api.Formula{eq(s, t)}, eq(t, s), []any{s, t, hyp(0)}, 0, 0},
		{"", "Trans", []api.Formula{eq(s, t), eq(t, v(1))}, eq(s, v(1)), []any{s, t, v(1), hyp(1), hyp(0)}, 0, 0},
		{"", "Cong", []api.Formula{eq(s, t)}, eq(succ(s), succ(t)), []any{lam(nat, succ(v(0))), s, t, hyp(0)}, 0, 0},
		{"", "Injective", []api.Formula{eq(succ(s), succ(t))}, eq(s, t), []any{s, t, hyp(0)}, 0, 0},
		{"", "Absurd", []api.Formula{eq(zero, succ(t))}, falsum(), []any{t, hyp(0)}, 0, 0},
		{"and", "ExFalso", []api.Formula{falsum()}, and(a, b), []any{and(a, b), hyp(0)}, 0, 0},
		{"imp", "ExFalso", []api.Formula{falsum()}, imp(a, imp(b, a)), []any{imp(a, imp(b, a)), hyp(0)}, 0, 2},
		{"all", "ExFalso", []api.Formula{falsum()}, all(nat, allU(list, eq(v(1), v(2)))), []any{all(nat, allU(list, eq(v(1), v(2)))), hyp(0)}, 2, 0},
		{"large premise", "ExFalso", []api.Formula{falsum()}, imp(samples.Ands(400, falsum()), a), []any{imp(samples.Ands(400, falsum()), a), hyp(0)}, 0, 1},
		{"", "Left", []api.Formula{a}, or(a, b), []any{a, b, hyp(0)}, 0, 1},
		{"", "Right", []api.Formula{b}, or(a, b), []any{a, b, hyp(0)}, 0, 1},
		{"", "Cases", []api.Formula{or(a, b), imp(a, c), imp(b, c)}, c, []any{a, b, c, hyp(2), hyp(1), hyp(0)}, 2, 4},
		{"", "Numbers", []api.Formula{put(x, zero), next(x)}, all(nat, x), []any{x, hyp(1), hyp(0)}, 2, 1},
		{"", "Lists", []api.Formula{put(c, none), longer(c)}, all(list, c), []any{c, hyp(1), hyp(0)}, 3, 1},
	}
}

// filled returns a context of n numbers, and m hypotheses of which the last ones are given.
func filled(n, m int, hyps []api.Formula) place {
	return in(slices.Repeat([]api.Type{nat}, n), append(slices.Repeat([]api.Formula{eq(v(0), v(0))}, m-len(hyps)), hyps...)...)
}

// As many variables and hypotheses as there may be, and one more: refused by ErrLimit alone.
func TestRoom(t *testing.T) {
	for _, x := range requests() {
		what := x.name + " " + x.what
		n, m := api.MaxContext-x.variables, api.MaxHyps-x.room
		filled(n, m, x.hyps).accepts(t, what, x.f, x.name, x.l...)
		filled(2, len(x.hyps), x.hyps).accepts(t, what, x.f, x.name, x.l...)
		p, err := named(x.name).call(x.l)
		must(t, what, err, api.OK)
		for _, g := range []place{filled(n+1, m, x.hyps), filled(n, m+1, x.hyps), filled(api.MaxContext+1, m, x.hyps)} {
			must(t, what+": one more", kernel.Accepts(nil, g.s, p, x.f), api.ErrLimit)
		}
	}
}

// padded returns a proof of the same with n nodes more, for n from 4 on.
func padded(p api.Proof, n int) api.Proof {
	for n > 0 {
		m := min(n, 1500)
		if n > 1500 && n < 1504 {
			m = 1000
		}
		p = rule(api.ProofAndL, andI(p, refl(num(m-4))))
		n -= m
	}
	return p
}

// P12.4: results with just as many nodes as a proof may have, and with one node more. Each proof that is handed in stands in the result once.
func TestProofSizes(t *testing.T) {
	for _, x := range requests() {
		p, err := named(x.name).call(x.l)
		must(t, x.name, err, api.OK)
		size, err := proof.Size(p)
		must(t, x.name, err, api.OK)
		for i, kind := range named(x.name).kinds {
			if kind != 'p' {
				continue
			}
			what := fmt.Sprint(x.name, " ", x.what, " ", i)
			l := slices.Clone(x.l)
			l[i] = padded(x.l[i].(api.Proof), api.MaxProof-size)
			filled(5, len(x.hyps)+3, x.hyps).accepts(t, what, x.f, x.name, l...)
			p, _ := named(x.name).call(l)
			nodes, _ := proof.Size(p)
			must(t, what+": nodes", nodes, api.MaxProof)
			l[i] = rule(api.ProofAndL, andI(l[i].(api.Proof), hyp(0)))
			must(t, what, proof.Check(l[i].(api.Proof)), api.OK)
			named(x.name).refuses(t, what, l, api.ErrSize)
			l[i] = padded(x.l[i].(api.Proof), api.MaxProof+1-size)
			named(x.name).refuses(t, what+": one more", l, api.ErrSize)
			l[i] = padded(x.l[i].(api.Proof), api.MaxProof-1)
			named(x.name).refuses(t, what+": as large as can be", l, api.ErrSize)
		}
	}
}

// steps returns how many steps lead to the normal form of a term.
func steps(t api.Term) int {
	_, n, _ := reduce.Normal(t, api.MaxWork)
	return n
}

// Terms that have more steps than the kernel takes: they are not brought to normal form where the proofs that are handed in are about just these terms.
func TestManySteps(t *testing.T) {
	slow := func(n, m int) api.Term { return app(value.Plus(), v(0), app(value.Times(), num(n), num(m))) }
	s, u, w := slow(20, 20), slow(21, 22), slow(19, 23)
	if steps(s) < api.MaxSteps || steps(u) < api.MaxSteps || steps(w) < api.MaxSteps {
		t.Fatalf("only %d, %d, %d steps", steps(s), steps(u), steps(w))
	}
	g := in([]api.Type{nat, fun(nat, nat), nat}, eq(s, u), eq(u, w), eq(succ(s), succ(u)), eq(zero, succ(s)), falsum(), ex(nat, eq(v(0), lifted(s))))
	g.accepts(t, "steps", eq(u, s), "Sym", s, u, hyp(5))
	g.accepts(t, "steps", eq(s, w), "Trans", s, u, w, hyp(5), hyp(4))
	g.accepts(t, "steps", eq(app(v(1), s), app(v(1), u)), "Cong", v(1), s, u, hyp(5))
	g.accepts(t, "steps", eq(s, u), "Injective", s, u, hyp(3))
	g.accepts(t, "steps", falsum(), "Absurd", s, hyp(2))
	a, b := and(eq(s, u), ex(nat, imp(eq(v(0), lifted(u)), eq(lifted(s), v(0))))), all(nat, eq(lifted(w), v(0)))
	for i, f := range []api.Formula{a, b, imp(a, b), ex(both(nat, nat), and(lift(b, 0, 1), eq(lifted(s), zero)))} {
		g.accepts(t, strconv.Itoa(i), f, "ExFalso", f, hyp(1))
	}
	g = in([]api.Type{nat}, a, b, or(a, b), imp(a, eq(s, w)), imp(b, eq(s, w)))
	g.accepts(t, "steps", or(a, b), "Left", a, b, hyp(4))
	g.accepts(t, "steps", or(a, b), "Right", a, b, hyp(3))
	g.accepts(t, "steps", eq(s, w), "Cases", a, b, eq(s, w), hyp(2), hyp(1), hyp(0))
	f := imp(eq(s, u), eq(v(1), v(0)))
	g = in([]api.Type{nat}, put(f, zero), next(f))
	g.accepts(t, "steps", all(nat, f), "Numbers", f, hyp(1), hyp(0))
}

// lifted returns a term below one more variable.
func lifted(t api.Term) api.Term { return samples.Up(t, 0) }

// ids returns a number with n steps: 3*n nodes more.
func ids(n int, t api.Term) api.Term {
	for range n {
		t = id(t)
	}
	return t
}

// long returns the number x with 3*n + 1 + more steps: n + 7 + 3*more nodes more.
func long(n, more int, x api.Term) api.Term {
	return ids(more, rec(nat, x, lam(nat, lam(nat, v(0))), num(n)))
}

// Where there is no room for one more variable, terms have almost as many steps as the kernel takes, and are refused by ErrLimit alone beyond that.
func TestStepsWithoutRoom(t *testing.T) {
	for _, n := range []int{990, 994, 995, 996, 997, 998, 1000, 1001} {
		s := long((n-1)/3, (n-1)%3, v(0))
		must(t, "steps", steps(s), n)
		hyps := []api.Formula{eq(succ(s), succ(v(1))), eq(zero, succ(s)), falsum()}
		g, what, enough := filled(api.MaxContext, api.MaxHyps, hyps), strconv.Itoa(n), n <= 990
		for _, x := range []request{
			{"", "Injective", nil, eq(s, v(1)), []any{s, v(1), hyp(2)}, 0, 0},
			{"", "Absurd", nil, falsum(), []any{s, hyp(1)}, 0, 0},
			{"", "ExFalso", nil, eq(s, v(1)), []any{eq(s, v(1)), hyp(0)}, 0, 0},
			{"", "ExFalso", nil, eq(v(1), s), []any{eq(v(1), s), hyp(0)}, 0, 0},
		} {
			if enough || x.name == "Absurd" {
				g.accepts(t, what, x.f, x.name, x.l...)
				continue
			}
			p, err := named(x.name).call(x.l)
			must(t, what, err, api.OK)
			if err := kernel.Accepts(nil, g.s, p, x.f); err != api.OK && err != api.ErrLimit {
				t.Errorf("%s: %d", what, err)
			}
			filled(api.MaxContext-1, api.MaxHyps-1, hyps).accepts(t, what, x.f, x.name, x.l...)
		}
	}
}

// Hypotheses that match what is asked for after as many steps as the kernel takes: there are no more for what is returned, even where there is no room for one more variable.
func TestStepsOfHypotheses(t *testing.T) {
	last := func(t api.Term) api.Term { return long(333, 0, t) }
	must(t, "steps", steps(last(v(0))), api.MaxSteps)
	s, u, w := v(0), v(1), app(value.Plus(), v(2), num(3))
	hyps := []api.Formula{eq(last(s), last(u)), eq(last(u), last(num(7))), eq(succ(last(s)), succ(last(u))), eq(last(zero), succ(last(s))), eq(last(zero), last(num(1)))}
	g := filled(api.MaxContext, api.MaxHyps, hyps)
	g.accepts(t, "", eq(u, s), "Sym", s, u, hyp(4))
	g.accepts(t, "", eq(s, num(7)), "Trans", s, u, num(7), hyp(4), hyp(3))
	g.accepts(t, "", eq(app(value.Pred(), s), app(value.Pred(), u)), "Cong", value.Pred(), s, u, hyp(4))
	g.accepts(t, "", eq(s, u), "Injective", s, u, hyp(2))
	g.accepts(t, "", falsum(), "Absurd", s, hyp(1))
	g.accepts(t, "", eq(w, w), "ExFalso", eq(w, w), hyp(0))
	a, b, c := eq(s, u), ex(nat, eq(v(0), v(2))), all(nat, eq(v(0), v(2)))
	as := func(f api.Formula) api.Formula {
		f.Args = []api.Formula{eq(last(f.Args[0].Terms[0]), last(f.Args[0].Terms[1]))}
		return f
	}
	g = filled(14, 12, []api.Formula{as(b), or(a, as(b)), imp(eq(s, last(u)), as(c)), imp(as(b), as(c))})
	g.accepts(t, "", or(a, b), "Right", a, b, hyp(3))
	g.accepts(t, "", or(b, a), "Left", b, a, hyp(3))
	g.accepts(t, "", c, "Cases", a, b, c, hyp(2), hyp(1), hyp(0))
	f := eq(v(0), v(0))
	g = filled(14, 15, []api.Formula{eq(last(zero), zero), all(nat, eq(last(succ(v(0))), last(succ(v(0)))))})
	g.accepts(t, "", all(nat, f), "Numbers", f, hyp(1), hyp(0))
}

// Terms and formulas that are so large that steps would double them, or that what stands around them has little room.
func TestLarge(t *testing.T) {
	for _, n := range []int{100, 1000, 1900, 2030} {
		s, u := samples.Above(n, v(0)), samples.Above(n, v(1))
		g := in([]api.Type{nat, nat}, eq(s, u), eq(u, s), eq(succ(s), succ(u)), eq(zero, succ(samples.Above(2*n, v(0)))), falsum())
		what := strconv.Itoa(n)
		g.accepts(t, what, eq(u, s), "Sym", s, u, hyp(4))
		g.accepts(t, what, eq(s, s), "Trans", s, u, s, hyp(4), hyp(3))
		g.accepts(t, what, eq(succ(s), succ(u)), "Cong", lam(nat, succ(v(0))), s, u, hyp(4))
		g.accepts(t, what, eq(s, u), "Injective", s, u, hyp(2))
		g.accepts(t, what, falsum(), "Absurd", samples.Above(2*n, v(0)), hyp(1))
		for i, f := range []api.Formula{eq(s, u), eq(samples.Above(2*n-20, v(0)), u), and(ex(nat, eq(samples.Above(n, v(0)), zero)), eq(v(0), s)), imp(eq(s, zero), eq(zero, samples.Above(n, v(0)))), ex(nat, eq(s, u))} {
			if formula.Check(f) == api.OK {
				g.accepts(t, fmt.Sprint(what, " ", i), f, "ExFalso", f, hyp(0))
			}
		}
	}
	g := in([]api.Type{nat, nat}, falsum())
	for n := range 10 {
		// Many small equations: what is put around each of them is more than these.
		f := samples.Ands(20*(n+1), eq(v(0), v(1)))
		g.accepts(t, strconv.Itoa(n), f, "ExFalso", f, hyp(0))
		f = imp(samples.Ands(800, falsum()), eq(v(0), num(2*n)))
		g.accepts(t, strconv.Itoa(n), f, "ExFalso", f, hyp(0))
	}
	f := samples.Ands(817, eq(v(0), zero)) // 4088 nodes
	g.accepts(t, "largest", f, "ExFalso", f, hyp(0))
}

// Disjunctions with just as many nodes as a formula may have, and with one more.
func TestLargeDisjunctions(t *testing.T) {
	for _, q := range []int{3, 1000, 2036, 4000, 4069} {
		a := eq(v(0), num(q-3))
		size, _ := formula.Size(or(falsum(), falsum()))
		rest := api.MaxFormula - (size - 2*4) - q
		b, less, tall := eq(v(0), num(rest-3)), eq(v(0), num(rest-4)), eq(v(0), num(rest-2))
		must(t, "nodes", formula.Check(or(a, b)), api.OK)
		g := in([]api.Type{nat}, a, b, less)
		g.accepts(t, strconv.Itoa(q), or(a, b), "Left", a, b, hyp(2))
		// 1 has one node more than a variable.
		g.accepts(t, strconv.Itoa(q), or(a, less), "Right", a, less, hyp(0))
		g.accepts(t, strconv.Itoa(q), or(less, a), "Right", less, a, hyp(2))
		named("Left").refuses(t, "one more", []any{a, tall, hyp(1)}, api.ErrSize)
		named("Right").refuses(t, "one more", []any{tall, a, hyp(1)}, api.ErrSize)
		named("Cases").refuses(t, "one more", []any{a, tall, a, hyp(0), hyp(0), hyp(0)}, api.ErrSize)
	}
}

// Hypotheses that match what is asked for, and are much larger: what is returned is no larger for that.
func TestLargerThanAsked(t *testing.T) {
	big := func(t api.Term) api.Term { return ids(100, long(100, 0, t)) }
	s, u, w := v(0), v(1), samples.Above(1800, v(2))
	context := []api.Type{nat, nat, nat}
	g := in(context, eq(big(s), big(u)), eq(big(u), w), eq(succ(big(s)), succ(big(u))), eq(big(zero), succ(big(s))), eq(big(zero), big(num(1))), eq(w, u))
	g.accepts(t, "", eq(u, s), "Sym", s, u, hyp(5))
	g.accepts(t, "", eq(s, w), "Trans", s, u, w, hyp(5), hyp(4))
	g.accepts(t, "", eq(w, s), "Trans", w, u, s, hyp(0), sym(t, s, u, hyp(5)))
	g.accepts(t, "", eq(succ(s), succ(u)), "Cong", lam(nat, succ(v(0))), s, u, hyp(5))
	g.accepts(t, "", eq(s, u), "Injective", s, u, hyp(3))
	g.accepts(t, "", falsum(), "Absurd", s, hyp(2))
	f := eq(w, w)
	g.accepts(t, "", f, "ExFalso", f, hyp(1))
	a, b, c := eq(s, u), eq(v(2), samples.Above(2000, zero)), eq(samples.Above(1500, s), u)
	larger := eq(samples.Above(1500, big(s)), big(big(u)))
	g = in(context, eq(ids(720, s), u), b, or(eq(s, u), b), imp(eq(s, big(u)), larger), imp(b, eq(ids(2, samples.Above(1500, s)), u)))
	g.accepts(t, "", or(a, b), "Left", a, b, hyp(4))
	g.accepts(t, "", or(b, a), "Right", b, a, hyp(4))
	g.accepts(t, "", c, "Cases", a, b, c, hyp(2), hyp(1), hyp(0))
	g = in(context, or(b, a), imp(b, c), imp(a, larger))
	g.accepts(t, "", c, "Cases", b, a, c, hyp(2), hyp(1), hyp(0))
}

// sym returns a proof of u = s.
func sym(t *testing.T, s, u api.Term, p api.Proof) api.Proof {
	t.Helper()
	q, err := named("Sym").call([]any{s, u, p})
	must(t, "Sym", err, api.OK)
	return q
}
