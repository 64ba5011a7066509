package kernel

import (
	"proofprograms/api"
	"proofprograms/subst"
)

// set is variables of a context: the bit i says whether i is one of them. A context has no more than api.MaxContext variables, so that there are bits enough.
type set uint32

// free returns the free variables of a term that has a type in a context.
func free(t api.Term) set {
	found, _ := subst.Uses(t) // without an error, as the term is valid
	var s set
	for _, i := range found {
		s |= 1 << i
	}
	return s
}

// has reports whether a variable is in the set.
func (s set) has(i int) bool { return s>>i&1 == 1 }

// outside returns what is left of a set where the last n variables are no longer bound.
func (s set) outside(n int) set { return s >> n }

// list returns the variables, ascending.
func (s set) list() []int {
	var l []int
	for i := range api.MaxContext {
		if s.has(i) {
			l = append(l, i)
		}
	}
	return l
}
