package choose_test

import (
	"math"
	"testing"

	"curtilage/api"
	"curtilage/choose"
	"curtilage/journal"
)

// table has what is selected in life Prod: the numbers of a state (active,
// trial, tries), whether the slots are valid, and the slot and the state after.
var table = []struct {
	active, trial, tries int
	ok                   [2]bool
	slot                 int
	after                [3]int
	change, onTrial      bool
}{
	{0, -1, 0, [2]bool{true, false}, 0, [3]int{0, -1, 0}, false, false},
	{0, -1, 0, [2]bool{true, true}, 0, [3]int{0, -1, 0}, false, false},
	{0, -1, 0, [2]bool{false, true}, 1, [3]int{1, -1, 0}, true, false},
	{0, -1, 0, [2]bool{false, false}, -1, [3]int{0, -1, 0}, false, false},
	{1, -1, 0, [2]bool{true, false}, 0, [3]int{0, -1, 0}, true, false},
	{1, -1, 0, [2]bool{true, true}, 1, [3]int{1, -1, 0}, false, false},
	{1, -1, 0, [2]bool{false, true}, 1, [3]int{1, -1, 0}, false, false},
	{1, -1, 0, [2]bool{false, false}, -1, [3]int{1, -1, 0}, false, false},
	{0, 1, 0, [2]bool{true, true}, 1, [3]int{0, 1, 1}, true, true},
	{0, 1, 1, [2]bool{true, true}, 1, [3]int{0, 1, 2}, true, true},
	{0, 1, 2, [2]bool{true, true}, 1, [3]int{0, 1, 3}, true, true},
	{0, 1, 3, [2]bool{true, true}, 0, [3]int{0, -1, 0}, true, false},
	{0, 1, 0, [2]bool{true, false}, 0, [3]int{0, -1, 0}, true, false},
	{0, 1, 2, [2]bool{false, true}, 1, [3]int{0, 1, 3}, true, true},
	{0, 1, 3, [2]bool{false, true}, 1, [3]int{1, -1, 0}, true, false},
	{0, 1, 0, [2]bool{false, false}, -1, [3]int{0, -1, 0}, true, false},
	{0, 1, 3, [2]bool{false, false}, -1, [3]int{0, -1, 0}, true, false},
	{1, 0, 0, [2]bool{true, true}, 0, [3]int{1, 0, 1}, true, true},
	{1, 0, 2, [2]bool{true, false}, 0, [3]int{1, 0, 3}, true, true},
	{1, 0, 3, [2]bool{true, true}, 1, [3]int{1, -1, 0}, true, false},
	{1, 0, 3, [2]bool{true, false}, 0, [3]int{0, -1, 0}, true, false},
	{1, 0, 1, [2]bool{false, true}, 1, [3]int{1, -1, 0}, true, false},
	{0, 0, 0, [2]bool{true, true}, 0, [3]int{0, 0, 1}, true, true},
	{0, 0, 3, [2]bool{true, true}, 0, [3]int{0, -1, 0}, true, false},
	{0, 0, 1, [2]bool{false, true}, 1, [3]int{1, -1, 0}, true, false},
	{1, 1, 2, [2]bool{false, true}, 1, [3]int{1, 1, 3}, true, true},
	{1, 1, 0, [2]bool{true, false}, 0, [3]int{0, -1, 0}, true, false},
}

func TestTable(t *testing.T) {
	for _, x := range table {
		l, e := [2]api.Errno{api.ErrForm, api.ErrDigest}, api.OK
		for i, ok := range x.ok {
			if ok {
				l[i] = api.OK
			}
		}
		if x.slot < 0 {
			e = api.ErrNone
		}
		s := journal.State{Seq: 41, Active: x.active, Trial: x.trial, Tries: x.tries}
		after := journal.State{Seq: 41, Active: x.after[0], Trial: x.after[1], Tries: x.after[2]}
		want := choose.Choice{Slot: x.slot, State: after, Change: x.change, Trial: x.onTrial, E: e}
		if got := choose.Select(api.Prod, s, l); got != want || got != selected(api.Prod, s, l) {
			t.Errorf("%v, %v: %v, not %v", s, l, got, want)
		}
	}
}

// Of every valid state, with every error of either slot, in every life.
func TestSelect(t *testing.T) {
	for _, life := range []int{0, 1, 2, 3, 4} {
		for _, seq := range []uint32{0, 7, math.MaxUint32} {
			for _, s := range states(seq) {
				for a := api.OK; a <= api.ErrText; a++ {
					for b := api.OK; b <= api.ErrText; b++ {
						l := [2]api.Errno{a, b}
						want := selected(life, s, l)
						if got := choose.Select(life, s, l); got != want {
							t.Fatalf("life %d, %v, %v: %v, not %v", life, s, l, got, want)
						}
						if want.Change != (want.State != s) || want.State.Seq != seq || !want.State.Right() {
							t.Fatalf("%v after %v", want, s)
						}
					}
				}
			}
		}
	}
}

func TestLives(t *testing.T) {
	s := journal.State{Seq: 3, Active: 1, Trial: 0, Tries: 3}
	for _, life := range []int{0, -1, -2, -4, 5, 6, 8, 255, 256, 257, 1 << 32, 1<<32 + 1, math.MinInt, math.MaxInt, math.MinInt32, math.MaxInt32} {
		for _, l := range [][2]api.Errno{{}, {api.ErrForm, api.ErrForm}, {api.OK, api.ErrArg}} {
			if got := choose.Select(life, s, l); got != (choose.Choice{Slot: -1, State: s, E: api.ErrState}) {
				t.Errorf("life %d: %v", life, got)
			}
		}
	}
	for _, l := range [][2]api.Errno{{}, {api.ErrForm, api.ErrForm}, {api.OK, api.ErrArg}} {
		if got := choose.Select(api.Scrap, s, l); got != (choose.Choice{Slot: -1, State: s, E: api.ErrDead}) {
			t.Errorf("%v", got)
		}
	}
}

// Errors may be any numbers.
func TestErrorsOfAnyNumber(t *testing.T) {
	s := journal.State{Trial: 1}
	for _, e := range []api.Errno{-1, 20, math.MinInt, math.MaxInt, 1 << 32} {
		for _, l := range [][2]api.Errno{{e, e}, {e, 0}, {0, e}} {
			if got, want := choose.Select(api.Dev, s, l), selected(api.Dev, s, l); got != want {
				t.Errorf("%v: %v, not %v", l, got, want)
			}
		}
	}
}

// Of a state that is not valid nothing is promised, but that Select ends.
func TestStatesThatThereAreNot(t *testing.T) {
	numbers := []int{math.MinInt, -2, -1, 0, 1, 2, 3, 4, math.MaxInt}
	for _, active := range numbers {
		for _, trial := range numbers {
			for _, tries := range numbers {
				s := journal.State{Active: active, Trial: trial, Tries: tries}
				for _, l := range [][2]api.Errno{{}, {1, 0}, {0, 1}, {1, 1}} {
					got := choose.Select(api.Prod, s, l)
					if got != choose.Select(api.Prod, s, l) || got.Slot < -1 || got.Slot > 1 || got.E != api.OK && got.Slot >= 0 {
						t.Errorf("%v, %v: %v", s, l, got)
					}
				}
			}
		}
	}
}
