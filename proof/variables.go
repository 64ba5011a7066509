package proof

import (
	"maps"
	"slices"

	"proofprograms/api"
	"proofprograms/terms"
)

// farthest is the greatest Index of a proof whose variables, or hypotheses, may become greater.
const farthest = 1 << 29

// Lift returns the proof in which each free variable that is at least from is greater by by.
// Errors: that of Check; ErrRange.
func Lift(p api.Proof, from, by int) (api.Proof, api.Errno) {
	if err := Check(p); err != api.OK {
		return api.Proof{}, err
	}
	far := false
	visitor{variable: beyond(&far)}.proof(p, place{})
	if far || !within(from, api.MaxTerm) || !within(by, api.MaxTerm) {
		return api.Proof{}, api.ErrRange
	}
	return change{variable: higher(from, by)}.proof(p, place{}), api.OK
}

// Put returns the proof with s, lifted to where it comes to stand, in place of the free variable at, and with each greater one one less.
// Errors: that of Check for p; ErrRange for at; that of terms.Check for s; ErrRange for an Index; ErrSize.
func Put(p api.Proof, at int, s api.Term) (api.Proof, api.Errno) {
	size, err := Size(p)
	if err != api.OK {
		return api.Proof{}, err
	}
	if !within(at, api.MaxTerm) {
		return api.Proof{}, api.ErrRange
	}
	part, err := terms.Size(s)
	if err != api.OK {
		return api.Proof{}, err
	}
	far, places := false, 0
	visitor{variable: beyond(&far)}.proof(p, place{})
	visitor{variable: beyond(&far)}.term(s, 0)
	if far {
		return api.Proof{}, api.ErrRange
	}
	visitor{variable: counter(at, &places)}.proof(p, place{})
	if size+places*(part-1) > api.MaxProof {
		return api.Proof{}, api.ErrSize
	}
	result := put(p, at, s)
	// A single term or formula may still be too large.
	if err := Check(result); err != api.OK {
		return api.Proof{}, err
	}
	return result, api.OK
}

// Uses returns the free variables of a proof, in its terms and formulas, ascending. Its error is that of Check.
func Uses(p api.Proof) ([]int, api.Errno) {
	found := map[int]bool{}
	return listed(p, visitor{variable: free(found)}, found)
}

// within reports whether a number is from 0 to most.
func within(n, most int) bool { return n >= 0 && n <= most }

// beyond returns what tells whether an Index is greater than farthest.
func beyond(far *bool) func(index, depth int) {
	return func(index, _ int) { *far = *far || index > farthest }
}

// higher returns what lifts the free variables that are at least from. The numbers may be greater than those of Lift: below binders they grow.
func higher(from, by int) func(v api.Term, depth int) api.Term {
	return func(v api.Term, depth int) api.Term {
		if v.Index >= from+depth {
			v.Index += by
		}
		return v
	}
}

// put is Put of a valid proof and a valid term.
func put(p api.Proof, at int, s api.Term) api.Proof {
	return change{variable: func(v api.Term, depth int) api.Term {
		if v.Index == at+depth {
			return change{variable: higher(0, at+depth)}.term(s, 0)
		}
		if v.Index > at+depth {
			v.Index--
		}
		return v
	}}.proof(p, place{})
}

// counter returns what counts the places of a free variable, or of a free hypothesis.
func counter(at int, count *int) func(index, depth int) {
	return func(index, depth int) {
		if index == at+depth {
			*count++
		}
	}
}

// free returns what keeps the numbers of free variables, or of free hypotheses.
func free(found map[int]bool) func(index, depth int) {
	return func(index, depth int) {
		if index >= depth {
			found[index-depth] = true
		}
	}
}

// listed returns, ascending, the numbers that a visitor of a proof has found. Its error is that of Check.
func listed(p api.Proof, v visitor, found map[int]bool) ([]int, api.Errno) {
	if err := Check(p); err != api.OK {
		return nil, err
	}
	v.proof(p, place{})
	return slices.Sorted(maps.Keys(found)), api.OK
}
