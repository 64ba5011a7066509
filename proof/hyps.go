package proof

import "proofprograms/api"

// LiftHyps returns the proof in which each free hypothesis that is at least from is greater by by.
// Errors: that of Check; ErrRange.
func LiftHyps(p api.Proof, from, by int) (api.Proof, api.Errno) {
	if err := Check(p); err != api.OK {
		return api.Proof{}, err
	}
	far := false
	visitor{hyp: beyond(&far)}.proof(p, place{})
	if far || !within(from, api.MaxProof) || !within(by, api.MaxProof) {
		return api.Proof{}, api.ErrRange
	}
	return change{hyp: higherHyp(from, by)}.proof(p, place{}), api.OK
}

// PutHyp returns the proof with q, lifted to where it comes to stand, in place of the free hypothesis at, and with each greater one one less.
// Errors: that of Check for p; ErrRange for at; that of Check for q; ErrRange for an Index; ErrSize.
func PutHyp(p api.Proof, at int, q api.Proof) (api.Proof, api.Errno) {
	size, err := Size(p)
	if err != api.OK {
		return api.Proof{}, err
	}
	if !within(at, api.MaxProof) {
		return api.Proof{}, api.ErrRange
	}
	part, err := Size(q)
	if err != api.OK {
		return api.Proof{}, err
	}
	far, places := false, 0
	visitor{hyp: beyond(&far)}.proof(p, place{})
	visitor{hyp: beyond(&far), variable: beyond(&far)}.proof(q, place{})
	if far {
		return api.Proof{}, api.ErrRange
	}
	visitor{hyp: counter(at, &places)}.proof(p, place{})
	if size+places*(part-1) > api.MaxProof {
		return api.Proof{}, api.ErrSize
	}
	return putHyp(p, at, q), api.OK
}

// Hyps returns the free hypotheses of a proof, ascending. Its error is that of Check.
func Hyps(p api.Proof) ([]int, api.Errno) {
	found := map[int]bool{}
	return listed(p, visitor{hyp: free(found)}, found)
}

// Lemmas returns the lemmas of a proof, ascending. Its error is that of Check.
func Lemmas(p api.Proof) ([]int, api.Errno) {
	found := map[int]bool{}
	return listed(p, visitor{lemma: func(index int) { found[index] = true }}, found)
}

// higherHyp returns what lifts the free hypotheses that are at least from. The numbers may be greater than those of LiftHyps: below binders they grow.
func higherHyp(from, by int) func(h api.Proof, at place) api.Proof {
	return func(h api.Proof, at place) api.Proof {
		if h.Index >= from+at.hyps {
			h.Index += by
		}
		return h
	}
}

// putHyp is PutHyp of valid proofs.
func putHyp(p api.Proof, at int, q api.Proof) api.Proof {
	return change{hyp: func(h api.Proof, here place) api.Proof {
		if h.Index == at+here.hyps {
			return change{variable: higher(0, here.vars), hyp: higherHyp(0, at+here.hyps)}.proof(q, place{})
		}
		if h.Index > at+here.hyps {
			h.Index--
		}
		return h
	}}.proof(p, place{})
}
