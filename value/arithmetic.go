package value

import "proofprograms/api"

// Pred returns the function of a number that returns the number before it, and 0 for 0.
func Pred() api.Term {
	return lam(rec(node(api.TermZero), lam(lam(variable(1))), variable(0)))
}

// Plus returns the function of two numbers that returns their sum.
func Plus() api.Term {
	next := lam(lam(node(api.TermSucc, variable(0))))
	return lam(lam(rec(variable(1), next, variable(0))))
}

// Times returns the function of two numbers that returns their product.
func Times() api.Term {
	next := lam(lam(app(Plus(), variable(0), variable(3))))
	return lam(lam(rec(node(api.TermZero), next, variable(0))))
}

// Sub returns the function of two numbers that returns the first one less the second one, and 0 where that would be less than 0.
func Sub() api.Term {
	next := lam(lam(app(Pred(), variable(0))))
	return lam(lam(rec(variable(1), next, variable(0))))
}

// Distance returns the function of two numbers that returns the greater one less the smaller one.
func Distance() api.Term {
	return lam(lam(app(Plus(), app(Sub(), variable(1), variable(0)), app(Sub(), variable(0), variable(1)))))
}

// node returns a term of a kind that has neither Index nor Type.
func node(kind int, args ...api.Term) api.Term { return api.Term{Kind: kind, Args: args} }

// variable returns a variable.
func variable(index int) api.Term { return api.Term{Kind: api.TermVar, Index: index} }

// lam returns a function of a number.
func lam(body api.Term) api.Term {
	return api.Term{Kind: api.TermLam, Type: nat(), Args: []api.Term{body}}
}

// rec returns a recursion over a number with numbers as results.
func rec(base, step, over api.Term) api.Term {
	return api.Term{Kind: api.TermRec, Type: nat(), Args: []api.Term{base, step, over}}
}

// app returns a function applied to some terms, one after the other.
func app(f api.Term, args ...api.Term) api.Term {
	for _, a := range args {
		f = node(api.TermApp, f, a)
	}
	return f
}

// nat returns the type of numbers.
func nat() api.Type { return api.Type{Kind: api.TypeNat} }
