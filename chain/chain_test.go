package chain_test

import (
	"slices"
	"testing"

	"troupe/api"
	"troupe/chain"
)

// part is over at its last step, and writes down its steps.
type part struct {
	name    string
	left    int
	outcome int
	steps   *[]string
}

func (p *part) Step() bool {
	p.left--
	*p.steps = append(*p.steps, p.name)
	return p.left == 0
}

// Outcome is that of an operation: none is told as long as it isn't over.
func (p *part) Outcome() int {
	if p.left > 0 {
		return api.Pending
	}
	return p.outcome
}

func wantTold(t *testing.T, o *chain.Op, outcome int, value uint64) {
	t.Helper()
	if o.Over() != (outcome != api.Pending) || o.Outcome() != outcome || o.Value() != value {
		t.Errorf("over %t, outcome %d, value %d, want outcome %d, value %d", o.Over(), o.Outcome(), o.Value(), outcome, value)
	}
}

// wantSteps steps o till it is over, and holds what was done at each step against what it shall be.
func wantSteps(t *testing.T, o *chain.Op, done *[]string, want ...[]string) {
	t.Helper()
	for i, w := range want {
		*done = nil
		if over := o.Step(); over != (i == len(want)-1) || over != o.Over() {
			t.Errorf("step %d of %d: over %t, %t", i+1, len(want), over, o.Over())
		}
		if !slices.Equal(*done, w) {
			t.Errorf("step %d: %q is done, want %q", i+1, *done, w)
		}
	}
}

func TestAnEndAlone(t *testing.T) {
	o := chain.New(chain.End(api.None, 3))
	wantTold(t, &o, api.None, 3)
	if !o.Step() {
		t.Error("an operation that was over from the beginning is over no more")
	}
	wantTold(t, &o, api.None, 3)
}

func TestPartsOneBehindTheOther(t *testing.T) {
	var done []string
	first, second := &part{"a", 2, api.Full, &done}, &part{"b", 1, api.Done, &done}
	o := chain.New(chain.Go(first, func(outcome int) chain.Next {
		if done = append(done, "behind a"); outcome != api.Full {
			t.Errorf("behind a: %d", outcome)
		}
		return chain.Go(second, func(outcome int) chain.Next {
			if done = append(done, "behind b"); outcome != api.Done {
				t.Errorf("behind b: %d", outcome)
			}
			return chain.End(api.More, 9)
		})
	}))
	wantTold(t, &o, api.Pending, 0)
	if len(done) > 0 {
		t.Errorf("%q is done ahead of the first step", done)
	}
	wantSteps(t, &o, &done, []string{"a"}, []string{"a", "behind a"}, []string{"b", "behind b"})
	wantTold(t, &o, api.More, 9)
	done = nil
	if !o.Step() || len(done) > 0 {
		t.Errorf("of one that is over %q is done", done)
	}
	wantTold(t, &o, api.More, 9)
}

// What comes behind an access is a part, an access, or the end.
func TestSingleAccesses(t *testing.T) {
	var done []string
	long := &part{"long", 2, api.Lost, &done}
	o := chain.New(chain.One(func() chain.Next {
		done = append(done, "a")
		return chain.Go(long, func(int) chain.Next {
			return chain.One(func() chain.Next {
				done = append(done, "b")
				return chain.One(func() chain.Next {
					done = append(done, "c")
					return chain.End(api.Rouse, 0)
				})
			})
		})
	}))
	wantSteps(t, &o, &done, []string{"a"}, []string{"long"}, []string{"long"}, []string{"b"}, []string{"c"})
	wantTold(t, &o, api.Rouse, 0)
}

func TestOneThatGoesOnAtItsBeginning(t *testing.T) {
	tries := 0
	var try func() chain.Next
	try = func() chain.Next {
		if tries++; tries < 1000 {
			return chain.One(try)
		}
		return chain.End(api.Done, 7)
	}
	o := chain.New(chain.One(try))
	for n := range 999 {
		if o.Step() || tries != n+1 {
			t.Fatalf("step %d: over %t, %d tries", n+1, o.Over(), tries)
		}
		wantTold(t, &o, api.Pending, 0)
	}
	o.Step()
	wantTold(t, &o, api.Done, 7)
}
