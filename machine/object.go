package machine

import (
	"slices"

	"proofprograms/api"
)

// object is what a term is evaluated to: a number, a *list, a pair, the unit or a closure.
type object any

// number is a number.
type number int

// list is a list with an element; nil is the empty one. Lists that are made of one list share it, so that making one is little work whatever its length is.
type list struct {
	head   number
	tail   *list
	length int
}

// pair is a pair.
type pair struct{ first, second object }

// unit is the object of the unit type.
type unit struct{}

// closure is the body of a function, with the objects of its variables but for Var 0.
type closure struct {
	body  api.Term
	scope *scope
}

// scope has the objects of variables: the last one is that of Var 0; nil has none.
type scope struct {
	last   object
	others *scope
}

// at returns the object of a variable, which must be there.
func (s *scope) at(index int) object {
	for range index {
		s = s.others
	}
	return s.last
}

// size returns the number of elements.
func (l *list) size() int {
	if l == nil {
		return 0
	}
	return l.length
}

// behind returns the list with a number before it.
func (l *list) behind(head number) *list {
	return &list{head: head, tail: l, length: l.size() + 1}
}

// parts returns the list from each of its elements on, the whole list first.
func (l *list) parts() []*list {
	all := make([]*list, 0, l.size())
	for ; l != nil; l = l.tail {
		all = append(all, l)
	}
	return all
}

// evaluated returns the object of a valid value, whose nodes are so few that calls within calls do no harm.
func evaluated(v api.Value) object {
	switch v.Kind {
	case api.ValueNum:
		return number(v.Num)
	case api.ValueList:
		var l *list
		for _, n := range slices.Backward(v.List) {
			l = l.behind(number(n))
		}
		return l
	case api.ValuePair:
		return pair{evaluated(v.Args[0]), evaluated(v.Args[1])}
	}
	return unit{}
}

// plain returns the value of an object without closures. Its nodes are as few as those of its type, so that calls within calls do no harm.
func plain(x object) api.Value {
	switch x := x.(type) {
	case number:
		return api.Value{Kind: api.ValueNum, Num: int(x)}
	case *list:
		return api.Value{Kind: api.ValueList, List: x.numbers()}
	case pair:
		return api.Value{Kind: api.ValuePair, Args: []api.Value{plain(x.first), plain(x.second)}}
	}
	return api.Value{Kind: api.ValueUnit}
}

// numbers returns the elements in new memory.
func (l *list) numbers() []int {
	var all []int
	for ; l != nil; l = l.tail {
		all = append(all, int(l.head))
	}
	return all
}
