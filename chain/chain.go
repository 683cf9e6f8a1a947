// Package chain puts operations together out of parts: of other operations, and of single accesses.
package chain

import "troupe/api"

// Part is an operation of which another one is put together; it isn't over when that one comes to it.
type Part interface {
	Step() bool
	Outcome() int
}

// Next is what an operation goes on with: a part and what comes behind it, or its end.
type Next struct {
	part    Part
	behind  func(outcome int) Next
	outcome int
	value   uint64
}

// Go is to go on with part; behind is done at the step by which part is over, and answers what comes then.
func Go(part Part, behind func(outcome int) Next) Next { return Next{part: part, behind: behind} }

// One is to go on with a single access, which answers what comes behind it.
func One(access func() Next) Next {
	s := &single{access: access}
	return Go(s, func(int) Next { return s.next })
}

// End is the end, with what the operation tells from then on.
func End(outcome int, value uint64) Next { return Next{outcome: outcome, value: value} }

// single is the part that is one access.
type single struct {
	access func() Next
	next   Next
}

func (s *single) Step() bool {
	s.next = s.access()
	return true
}

func (s *single) Outcome() int { return api.Done }

// Op is an operation that is put together.
type Op struct{ now Next }

// New makes an operation that begins with first; it is over from the beginning, if that is an end.
func New(first Next) Op { return Op{now: first} }

// Step does the next access, and tells whether the operation is over now.
func (o *Op) Step() bool {
	if !o.Over() && o.now.part.Step() {
		o.now = o.now.behind(o.now.part.Outcome())
	}
	return o.Over()
}

// Over tells whether the operation has come to something.
func (o *Op) Over() bool { return o.now.outcome != api.Pending }

// Outcome tells what it has come to.
func (o *Op) Outcome() int { return o.now.outcome }

// Value tells what it has brought.
func (o *Op) Value() uint64 { return o.now.value }
