package decide

import (
	"proofprograms/api"
	"proofprograms/class"
	"proofprograms/formula"
	"proofprograms/machine"
	"proofprograms/value"
)

// part is a closed decidable formula by its shape. What it is made of are formulas still: they become parts only where their truth is asked for.
type part interface {
	// truth returns whether the formula is true; with an error, this says nothing.
	// Errors, where they are met: ErrSteps; ErrSize.
	truth(c *count) (bool, api.Errno)
}

// equation says that two numbers are the same.
type equation struct{ left, right api.Term }

// conjunction says that both of two formulas are true.
type conjunction struct{ first, second api.Formula }

// implication says that one formula is true if another one is.
type implication struct{ premise, conclusion api.Formula }

// bounded says that a formula is true of all (every) or of some of the numbers below a limit.
type bounded struct {
	every bool
	limit api.Term
	body  api.Formula
}

// partOf returns a closed decidable formula by its shape.
func partOf(f api.Formula) part {
	switch f.Kind {
	case api.FormEq:
		return equation{f.Terms[0], f.Terms[1]}
	case api.FormAnd:
		return conjunction{f.Args[0], f.Args[1]}
	case api.FormImp:
		return implication{f.Args[0], f.Args[1]}
	}
	every, limit, body, _ := class.Bound(f) // no other quantifiers are decidable
	return bounded{every, limit, body}
}

func (e equation) truth(c *count) (bool, api.Errno) {
	left, err := c.number(e.left)
	if err != api.OK {
		return false, err
	}
	right, err := c.number(e.right)
	return left == right, err
}

func (j conjunction) truth(c *count) (bool, api.Errno) {
	is, err := partOf(j.first).truth(c)
	if err != api.OK || !is {
		return false, err
	}
	return partOf(j.second).truth(c)
}

func (i implication) truth(c *count) (bool, api.Errno) {
	is, err := partOf(i.premise).truth(c)
	if err != api.OK || !is {
		return true, err
	}
	return partOf(i.conclusion).truth(c)
}

func (b bounded) truth(c *count) (bool, api.Errno) {
	limit, err := c.number(b.limit)
	if err != api.OK {
		return false, err
	}
	for k := range limit {
		if err := c.one(); err != api.OK {
			return false, err
		}
		is, err := c.instance(b.body, k)
		if err != api.OK || is != b.every { // one that is otherwise decides
			return is, err
		}
	}
	return b.every, api.OK
}

// count counts the work of one call.
type count struct{ work, limit int }

// one counts one unit of work, or returns ErrSteps.
func (c *count) one() api.Errno {
	if c.work == c.limit {
		return api.ErrSteps
	}
	c.work++
	return api.OK
}

// number returns the number that a closed term has as its value. Its error is that of machine.Eval for what is left of the work.
func (c *count) number(t api.Term) (int, api.Errno) {
	x, work, err := machine.Eval(t, c.limit-c.work)
	c.work += work
	return x.Num, err
}

// instance returns the truth of a formula with the term of a number in place of the variable 0.
// Errors: that of value.Number; that of formula.Put; then, where it is met, ErrSteps or ErrSize.
func (c *count) instance(f api.Formula, k int) (bool, api.Errno) {
	t, err := value.Number(k)
	if err != api.OK {
		return false, err
	}
	g, err := formula.Put(f, 0, t)
	if err != api.OK {
		return false, err
	}
	return partOf(g).truth(c)
}
