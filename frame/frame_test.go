// Package frame holds the layers' calls against the chapters' lists: it is built only if each is there as it is listed.
package frame

import (
	"testing"

	"troupe/act"
	"troupe/api"
	"troupe/area"
	"troupe/audit"
	"troupe/bell"
	"troupe/cells"
	"troupe/check"
	"troupe/clock"
	"troupe/console"
	"troupe/crew"
	"troupe/dead"
	"troupe/deque"
	"troupe/gate"
	"troupe/ledger"
	"troupe/lex"
	"troupe/lot"
	"troupe/mercy"
	"troupe/parse"
	"troupe/post"
	"troupe/ring"
	"troupe/script"
	"troupe/stash"
	"troupe/theatre"
	"troupe/tree"
	"troupe/vigil"
	"troupe/wheel"
)

// The calls of layer 01.
var (
	_ func(int) *cells.Mem                                    = cells.New
	_ func(*cells.Mem) int                                    = (*cells.Mem).Len
	_ func(*cells.Mem, int) (uint64, api.Errno)               = (*cells.Mem).Load
	_ func(*cells.Mem, int, uint64) api.Errno                 = (*cells.Mem).Store
	_ func(*cells.Mem, int, uint64, uint64) (bool, api.Errno) = (*cells.Mem).Swap
	_ func(*cells.Mem, int, uint64) (uint64, api.Errno)       = (*cells.Mem).Add
	_ func(*cells.Mem) int                                    = (*cells.Mem).Touched
	_ func(*cells.Mem, int) uint64                            = (*cells.Mem).Peek
	_ func(*cells.Mem) []uint64                               = (*cells.Mem).All
)

// The calls of layer 02.
var (
	_ func(int) *area.Area                   = area.New
	_ func(*area.Area, int) (int, api.Errno) = (*area.Area).Take
	_ func(*area.Area, int) api.Errno        = (*area.Area).Give
	_ func(*area.Area) int                   = (*area.Area).Free
	_ func(*area.Area) []api.Region          = (*area.Area).Regions
)

// The calls of layer 03.
var (
	_ func(int) int                                      = ring.Size
	_ func(*cells.Mem, int, int) (*ring.Ring, api.Errno) = ring.Make
	_ func(*ring.Ring, uint64) *ring.Op                  = (*ring.Ring).Put
	_ func(*ring.Ring) *ring.Op                          = (*ring.Ring).Take
	_ func(*ring.Ring) *ring.Op                          = (*ring.Ring).Drain
	_ func(*ring.Ring) *ring.Op                          = (*ring.Ring).Close
	_ func(*ring.Ring) *ring.Op                          = (*ring.Ring).Look
	_ func(*ring.Op) bool                                = (*ring.Op).Step
	_ func(*ring.Op) bool                                = (*ring.Op).Over
	_ func(*ring.Op) int                                 = (*ring.Op).Outcome
	_ func(*ring.Op) uint64                              = (*ring.Op).Value
	_ func(*ring.Op) uint64                              = (*ring.Op).Ticket
)

// The calls of layer 04.
var (
	_ func(int) int                                        = deque.Size
	_ func(*cells.Mem, int, int) (*deque.Deque, api.Errno) = deque.Make
	_ func(*deque.Deque, uint64) *deque.Op                 = (*deque.Deque).Push
	_ func(*deque.Deque) *deque.Op                         = (*deque.Deque).Pop
	_ func(*deque.Deque) *deque.Op                         = (*deque.Deque).Steal
	_ func(*deque.Op) bool                                 = (*deque.Op).Step
	_ func(*deque.Op) bool                                 = (*deque.Op).Over
	_ func(*deque.Op) int                                  = (*deque.Op).Outcome
	_ func(*deque.Op) uint64                               = (*deque.Op).Value
)

// The calls of layer 05.
var (
	_ func(int) int                                      = gate.Size
	_ func(*cells.Mem, int, int) (*gate.Gate, api.Errno) = gate.Make
	_ func(*gate.Gate, uint64) *gate.Op                  = (*gate.Gate).Put
	_ func(*gate.Gate) *gate.Op                          = (*gate.Gate).Take
	_ func(*gate.Op) bool                                = (*gate.Op).Step
	_ func(*gate.Op) bool                                = (*gate.Op).Over
	_ func(*gate.Op) int                                 = (*gate.Op).Outcome
	_ func(*gate.Op) uint64                              = (*gate.Op).Value
)

// The calls of layer 06.
var (
	_ func(int) int                                      = bell.Size
	_ func(*cells.Mem, int, int) (*bell.Bell, api.Errno) = bell.Make
	_ func(*bell.Bell, int) *bell.Op                     = (*bell.Bell).Sleep
	_ func(*bell.Bell, int) *bell.Op                     = (*bell.Bell).Up
	_ func(*bell.Bell, int) *bell.Op                     = (*bell.Bell).Poll
	_ func(*bell.Bell) *bell.Op                          = (*bell.Bell).Ring
	_ func(*bell.Op) bool                                = (*bell.Op).Step
	_ func(*bell.Op) bool                                = (*bell.Op).Over
	_ func(*bell.Op) int                                 = (*bell.Op).Outcome
	_ func(*bell.Op) int                                 = (*bell.Op).Who
)

// The calls of layer 07.
var (
	_ func(uint64, int, int) []int         = lot.Order
	_ func(int) int                        = lot.Ways
	_ func([]int, int, int) (uint64, bool) = lot.Rank
)

// The calls of layer 08.
var (
	_ func() *wheel.Wheel                         = wheel.New
	_ func(*wheel.Wheel, uint64, int) api.Errno   = (*wheel.Wheel).Add
	_ func(*wheel.Wheel, uint64) bool             = (*wheel.Wheel).Cut
	_ func(*wheel.Wheel) []uint64                 = (*wheel.Wheel).Tick
	_ func(*wheel.Wheel) int                      = (*wheel.Wheel).Now
	_ func(*wheel.Wheel) int                      = (*wheel.Wheel).Len
	_ func(*wheel.Wheel, uint64) (int, bool)      = (*wheel.Wheel).Due
	_ func(*wheel.Wheel, uint64) (int, int, bool) = (*wheel.Wheel).Where
	_ func(*wheel.Wheel) []uint64                 = (*wheel.Wheel).Ids
)

// The calls of layer 09.
var (
	_ func(int) *dead.Sink                         = dead.New
	_ func(*dead.Sink, uint64, int, int) api.Errno = (*dead.Sink).Put
	_ func(*dead.Sink, int) int                    = (*dead.Sink).Count
	_ func(*dead.Sink) int                         = (*dead.Sink).Total
	_ func(*dead.Sink) []api.Letter                = (*dead.Sink).Recent
)

// The calls of layer 10.
var (
	_ func() *ledger.Ledger                       = ledger.New
	_ func(*ledger.Ledger, uint64, int) api.Errno = (*ledger.Ledger).Accept
	_ func(*ledger.Ledger, uint64, int) api.Errno = (*ledger.Ledger).Move
	_ func(*ledger.Ledger, uint64) api.Errno      = (*ledger.Ledger).Start
	_ func(*ledger.Ledger, uint64) api.Errno      = (*ledger.Ledger).Kill
	_ func(*ledger.Ledger, uint64) int            = (*ledger.Ledger).Where
	_ func(*ledger.Ledger, int) int               = (*ledger.Ledger).Count
	_ func(*ledger.Ledger) []api.Place            = (*ledger.Ledger).Held
)

// The calls of layer 11.
var (
	_ func(int) *stash.Line               = stash.New
	_ func(*stash.Line, uint64) api.Errno = (*stash.Line).Stash
	_ func(*stash.Line) int               = (*stash.Line).Unstash
	_ func(*stash.Line) (uint64, bool)    = (*stash.Line).Next
	_ func(*stash.Line) []uint64          = (*stash.Line).Clear
	_ func(*stash.Line) []uint64          = (*stash.Line).Stashed
	_ func(*stash.Line) []uint64          = (*stash.Line).Front
)

// The calls of layer 12.
var (
	_ func(*lex.Fault) string           = (*lex.Fault).Error
	_ func(*lex.Fault) error            = (*lex.Fault).Unwrap
	_ func(error) api.Errno             = lex.Code
	_ func(error) int                   = lex.At
	_ func(string) bool                 = lex.Name
	_ func(string) ([]api.Token, error) = lex.All
)

// The calls of layer 13.
var (
	_ func(string) (api.Program, error)     = parse.Program
	_ func(api.Program) (string, api.Errno) = parse.Print
	_ func(api.Program, api.Program) bool   = parse.Same
)

// The calls of layer 14.
var (
	_ func(*check.Bad) string = (*check.Bad).Error
	_ func(*check.Bad) error  = (*check.Bad).Unwrap
	_ func(api.Program) error = check.Program
	_ func(error) api.Errno   = check.Code
	_ func(error) []int       = check.Where
)

// The calls of layer 15.
var (
	_ func(api.Program, string) (api.Kind, bool)          = act.Find
	_ func(api.Kind, string, string, int) (api.Row, bool) = act.Row
	_ func(api.Kind, string, string, int) api.Plan        = act.Do
	_ func(api.Effect, int) int                           = act.Number
	_ func(string) (int, bool)                            = act.Slot
	_ func(string, int, int, int, []int) int              = act.Who
)

// The calls of layer 16.
var (
	_ func(api.Kind, string) int         = mercy.Directive
	_ func(int, int) *mercy.Budget       = mercy.New
	_ func(*mercy.Budget, int, int) bool = (*mercy.Budget).Ask
	_ func(*mercy.Budget, int, int) int  = (*mercy.Budget).Left
	_ func(*mercy.Budget, int)           = (*mercy.Budget).Forget
)

// The calls of layer 17.
var (
	_ func() *tree.Tree                    = tree.New
	_ func(*tree.Tree, int, int) api.Errno = (*tree.Tree).Add
	_ func(*tree.Tree, int) api.Errno      = (*tree.Tree).Cut
	_ func(*tree.Tree, int) bool           = (*tree.Tree).Has
	_ func(*tree.Tree) int                 = (*tree.Tree).Len
	_ func(*tree.Tree, int) (int, bool)    = (*tree.Tree).Parent
	_ func(*tree.Tree, int) []int          = (*tree.Tree).Kids
	_ func(*tree.Tree, int) []int          = (*tree.Tree).Path
	_ func(*tree.Tree, int) []int          = (*tree.Tree).Below
)

// The calls of layer 18.
var (
	_ func(int, int) int                                     = post.Size
	_ func(*cells.Mem, int, int, int) (*post.Box, api.Errno) = post.Make
	_ func(*post.Box, uint64) *post.Op                       = (*post.Box).Tell
	_ func(*post.Box, uint64) *post.Op                       = (*post.Box).Push
	_ func(*post.Box, uint64) *post.Op                       = (*post.Box).Ask
	_ func(*post.Box) *post.Op                               = (*post.Box).Begin
	_ func(*post.Box) *post.Op                               = (*post.Box).Fetch
	_ func(*post.Box) *post.Op                               = (*post.Box).Note
	_ func(*post.Box, bool) *post.Op                         = (*post.Box).Settle
	_ func(*post.Box) *post.Op                               = (*post.Box).Again
	_ func(*post.Box) *post.Op                               = (*post.Box).Close
	_ func(*post.Box) *post.Op                               = (*post.Box).Drain
	_ func(*post.Box) *post.Op                               = (*post.Box).Shut
	_ func(*post.Box) *post.Op                               = (*post.Box).Gone
	_ func(*post.Op) bool                                    = (*post.Op).Step
	_ func(*post.Op) bool                                    = (*post.Op).Over
	_ func(*post.Op) int                                     = (*post.Op).Outcome
	_ func(*post.Op) uint64                                  = (*post.Op).Value
)

// The calls of layer 19.
var (
	_ func(int) int                                        = vigil.Size
	_ func(*cells.Mem, int, int) (*vigil.Vigil, api.Errno) = vigil.Make
	_ func(*vigil.Vigil, int, int) *vigil.Op               = (*vigil.Vigil).Watch
	_ func(*vigil.Vigil, int, int) *vigil.Op               = (*vigil.Vigil).Unwatch
	_ func(*vigil.Vigil, int, int) *vigil.Op               = (*vigil.Vigil).Claim
	_ func(*vigil.Op) bool                                 = (*vigil.Op).Step
	_ func(*vigil.Op) bool                                 = (*vigil.Op).Over
	_ func(*vigil.Op) int                                  = (*vigil.Op).Outcome
)

// The calls of layer 20.
var (
	_ func(int, int, int) int                                      = crew.Size
	_ func(*cells.Mem, int, int, int, int) (*crew.Crew, api.Errno) = crew.Make
	_ func(*crew.Crew, int, uint64) *crew.Op                       = (*crew.Crew).Offer
	_ func(*crew.Crew, int, uint64) *crew.Op                       = (*crew.Crew).Find
	_ func(*crew.Crew, int) *crew.Op                               = (*crew.Crew).Rest
	_ func(*crew.Crew, int) *crew.Op                               = (*crew.Crew).Poll
	_ func(*crew.Op) bool                                          = (*crew.Op).Step
	_ func(*crew.Op) bool                                          = (*crew.Op).Over
	_ func(*crew.Op) int                                           = (*crew.Op).Outcome
	_ func(*crew.Op) uint64                                        = (*crew.Op).Value
)

// The calls of layer 21.
var (
	_ func(int) int                                        = clock.Size
	_ func(*cells.Mem, int, int) (*clock.Clock, api.Errno) = clock.Make
	_ func(*clock.Clock, uint64, int) *clock.Op            = (*clock.Clock).Ask
	_ func(*clock.Clock, uint64) *clock.Op                 = (*clock.Clock).Cancel
	_ func(*clock.Clock) *clock.Op                         = (*clock.Clock).Beat
	_ func(*clock.Clock) *clock.Op                         = (*clock.Clock).Now
	_ func(*clock.Clock) []uint64                          = (*clock.Clock).Ids
	_ func(*clock.Op) bool                                 = (*clock.Op).Step
	_ func(*clock.Op) bool                                 = (*clock.Op).Over
	_ func(*clock.Op) int                                  = (*clock.Op).Outcome
	_ func(*clock.Op) uint64                               = (*clock.Op).Value
	_ func(*clock.Op) []uint64                             = (*clock.Op).Due
	_ func(*clock.Op) []uint64                             = (*clock.Op).Cut
	_ func(*clock.Op) []uint64                             = (*clock.Op).Refused
)

// The calls of layer 22.
var (
	_ func(api.Config, api.Program) (*theatre.Theatre, error) = theatre.New
	_ func(*theatre.Theatre, api.Entry) bool                  = (*theatre.Theatre).Do
	_ func(*theatre.Theatre, []api.Entry) int                 = (*theatre.Theatre).Play
	_ func(*theatre.Theatre, int) bool                        = (*theatre.Theatre).Rest
	_ func(*theatre.Theatre) bool                             = (*theatre.Theatre).Quiet
	_ func(*theatre.Theatre) int                              = (*theatre.Theatre).Now
	_ func(*theatre.Theatre) []api.Event                      = (*theatre.Theatre).Trace
	_ func(*theatre.Theatre) int                              = (*theatre.Theatre).Len
	_ func(*theatre.Theatre) []api.Place                      = (*theatre.Theatre).Places
	_ func(*theatre.Theatre) []api.Stand                      = (*theatre.Theatre).Stands
	_ func(*theatre.Theatre, int) int                         = (*theatre.Theatre).Dead
	_ func(*theatre.Theatre) []api.Letter                     = (*theatre.Theatre).Letters
)

// The calls of layer 23.
var (
	_ func(api.Program, []api.Event) (int, int) = audit.Check
	_ func([]api.Event, int, int) []uint64      = audit.Arrived
	_ func([]api.Event, int) []uint64           = audit.Worked
)

// The calls of layer 24.
var (
	_ func(api.Entry) (string, api.Errno)        = script.Line
	_ func(string) (api.Entry, api.Errno)        = script.Read
	_ func([]api.Entry) (string, int, api.Errno) = script.Text
	_ func(string) ([]api.Entry, int, api.Errno) = script.Script
	_ func(api.Event) (string, api.Errno)        = script.Event
	_ func(string) (api.Event, api.Errno)        = script.ReadEvent
)

// The calls of layer 25.
var (
	_ func(string) string = console.Run
)

// What the chapters tell of types whose fields are to be seen.
var (
	_ error = &lex.Fault{Code: api.ErrSign, At: 1}
	_ error = &check.Bad{Code: api.ErrCount, Where: []int{}}
)

func TestStatusesOfABox(t *testing.T) {
	got := [5]int{post.Idle, post.Ready, post.Running, post.Held, post.Shut}
	if want := [5]int{0, 1, 2, 3, 4}; got != want {
		t.Errorf("statuses %v, want %v", got, want)
	}
}
