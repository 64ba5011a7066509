// Package types is layer 1: finite types; see shared/doc/01-types.md.
package types

import (
	"iter"

	"proofprograms/api"
)

// Check returns the first error of a type: ErrForm, or else ErrSize.
func Check(t api.Type) api.Errno {
	_, err := Size(t)
	return err
}

// Size returns the number of nodes. Its error is that of Check.
func Size(t api.Type) (int, api.Errno) {
	count := 0
	for n := range nodes(t) {
		if !formed(n) {
			return 0, api.ErrForm
		}
		count++
	}
	// Not in the loop: a wrong node behind the limit is still the first error.
	if count > api.MaxType {
		return 0, api.ErrSize
	}
	return count, api.OK
}

// Same reports whether two types, which may be any trees, are equal.
func Same(a, b api.Type) bool {
	for x, y := range places(a, b) {
		if x.Kind != y.Kind || len(x.Args) != len(y.Args) {
			return false
		}
	}
	return true
}

// Level returns how deep functions take functions. Its error is that of Check.
func Level(t api.Type) (int, api.Errno) {
	if err := Check(t); err != api.OK {
		return 0, err
	}
	return level(t), api.OK
}

// Data reports whether a type has no functions in it. Its error is that of Check.
func Data(t api.Type) (bool, api.Errno) {
	if err := Check(t); err != api.OK {
		return false, err
	}
	for n := range nodes(t) {
		if n.Kind == api.TypeFun {
			return false, api.OK
		}
	}
	return true, api.OK
}

// Result returns the arguments of a function, in order, and what comes of all of them. Its error is that of Check.
func Result(t api.Type) ([]api.Type, api.Type, api.Errno) {
	if err := Check(t); err != api.OK {
		return nil, api.Type{}, err
	}
	var l []api.Type
	for t.Kind == api.TypeFun {
		l = append(l, t.Args[0])
		t = t.Args[1]
	}
	return l, t, api.OK
}

// Function returns the type of a function of some arguments, one after the other.
// Errors: that of Check for the arguments, in order; that for t; ErrSize.
func Function(l []api.Type, t api.Type) (api.Type, api.Errno) {
	total := len(l) // a node TypeFun for each argument
	for _, a := range l {
		n, err := Size(a)
		if err != api.OK {
			return api.Type{}, err
		}
		total += n
	}
	n, err := Size(t)
	if err != api.OK {
		return api.Type{}, err
	}
	if total+n > api.MaxType {
		return api.Type{}, api.ErrSize
	}
	for i := len(l) - 1; i >= 0; i-- {
		t = api.Type{Kind: api.TypeFun, Args: []api.Type{l[i], t}}
	}
	return t, api.OK
}

// Context returns the first error of a context: ErrLimit, or else that of Check for its types, in order.
func Context(l []api.Type) api.Errno {
	if len(l) > api.MaxContext {
		return api.ErrLimit
	}
	for _, t := range l {
		if err := Check(t); err != api.OK {
			return err
		}
	}
	return api.OK
}

// formed reports whether a node has a kind of types, and as many Args as it names.
func formed(n api.Type) bool {
	switch n.Kind {
	case api.TypeNat, api.TypeList, api.TypeUnit:
		return len(n.Args) == 0
	case api.TypePair, api.TypeFun:
		return len(n.Args) == 2
	}
	return false
}

// level is Level of a valid type, whose nodes are so few that calls within calls do no harm.
func level(t api.Type) int {
	switch t.Kind {
	case api.TypePair:
		return max(level(t.Args[0]), level(t.Args[1]))
	case api.TypeFun:
		return max(level(t.Args[0])+1, level(t.Args[1]))
	}
	return 0
}

// nodes goes through all nodes of any tree, each one before its Args.
// What is left to do is a list of its own, because a tree that is no type may be too deep for calls within calls.
func nodes(t api.Type) iter.Seq[api.Type] {
	return func(yield func(api.Type) bool) {
		left := []api.Type{t}
		for len(left) > 0 {
			last := len(left) - 1
			n := left[last]
			left = left[:last]
			if !yield(n) {
				return
			}
			left = append(left, n.Args...)
		}
	}
}

// places goes through two trees at once, and hands out the nodes of both at each place that both have.
func places(a, b api.Type) iter.Seq2[api.Type, api.Type] {
	return func(yield func(api.Type, api.Type) bool) {
		left := [][2]api.Type{{a, b}}
		for len(left) > 0 {
			last := len(left) - 1
			x, y := left[last][0], left[last][1]
			left = left[:last]
			if !yield(x, y) {
				return
			}
			for i := range min(len(x.Args), len(y.Args)) {
				left = append(left, [2]api.Type{x.Args[i], y.Args[i]})
			}
		}
	}
}
