package bus_test

import (
	"math"
	"testing"

	"curtilage/api"
	"curtilage/bus"
)

// masters is how many masters there are, and none stands for none of them.
const (
	masters = 4
	none    = -1
)

// strangers are numbers of no master.
var strangers = []int{-1, -2, -4, 4, 5, 8, 15, 256, 260, 1 << 32, 1<<32 + 1, -1 << 32, math.MaxInt32, math.MinInt32, math.MaxInt, math.MinInt}

// wrong are numbers of waits that no access has.
var wrong = []int{-1, -2, -16, -256, 16, 17, 31, 255, 256, 1 << 16, 1 << 32, 1<<32 + 3, -1 << 32, math.MaxInt32, math.MinInt32, math.MaxInt, math.MinInt}

// ask holds that a request is accepted.
func ask(t *testing.T, a bus.Arbiter, m, waits int) bus.Arbiter {
	t.Helper()
	next, e := a.Ask(m, waits)
	if e != api.OK {
		t.Fatalf("master %d with %d waits: error %d", m, waits, e)
	}
	return next
}

// refuses holds that a request has this error and changes nothing.
func refuses(t *testing.T, a bus.Arbiter, m, waits int, want api.Errno) {
	t.Helper()
	next, e := a.Ask(m, waits)
	if e != want {
		t.Errorf("master %d with %d waits: error %d, not %d", m, waits, e, want)
	}
	if next != a {
		t.Errorf("master %d with %d waits: another arbiter beside the error", m, waits)
	}
}

// ticks holds what the next ticks return.
func ticks(t *testing.T, a bus.Arbiter, want ...int) bus.Arbiter {
	t.Helper()
	for i, m := range want {
		var got int
		if a, got = a.Tick(); got != m {
			t.Fatalf("tick %d returns %d, not %d", i+1, got, m)
		}
	}
	return a
}

// stands holds who is being served, and who has requested.
func stands(t *testing.T, a bus.Arbiter, serves int, asked ...int) {
	t.Helper()
	if got := a.Serves(); got != serves {
		t.Errorf("%d is being served, not %d", got, serves)
	}
	var want [masters]bool
	for _, m := range asked {
		want[m] = true
	}
	if got := a.Asked(); got != want {
		t.Errorf("asked: %v, not %v", got, want)
	}
}

func TestTheExample(t *testing.T) {
	a := ask(t, ask(t, bus.New(), 0, 2), 1, 0)
	ticks(t, a, none, none, 0, 1)
}

func TestNew(t *testing.T) {
	stands(t, bus.New(), none)
	if bus.New() != bus.New() {
		t.Error("two new arbiters differ")
	}
}

func TestNothingIsServedWithoutRequests(t *testing.T) {
	a := ticks(t, bus.New(), none, none, none, none, none)
	stands(t, a, none)
	if a != bus.New() {
		t.Error("ticks without a request change the arbiter")
	}
	// None of these ticks is a master's turn: 0 is still the first.
	for m := range masters {
		a = ask(t, a, m, 0)
	}
	ticks(t, a, 0, 1, 2, 3, none)
}

// Each access takes one tick more than its waits.
func TestWaits(t *testing.T) {
	for m := range masters {
		for waits := range bus.MaxWait + 1 {
			a := ask(t, bus.New(), m, waits)
			stands(t, a, none, m)
			for range waits {
				a = ticks(t, a, none)
				stands(t, a, m)
			}
			a = ticks(t, a, m)
			stands(t, a, none)
			ticks(t, a, none, none)
		}
	}
	if bus.MaxWait != 15 {
		t.Errorf("at most %d waits", bus.MaxWait)
	}
}

func TestTheOrder(t *testing.T) {
	for _, c := range []struct {
		last  int   // who was served last, or nobody
		asked []int // in this order
		want  []int
	}{
		{none, []int{3, 2, 1, 0}, []int{0, 1, 2, 3}},
		{none, []int{2, 3, 0, 1}, []int{0, 1, 2, 3}},
		{none, []int{3, 1}, []int{1, 3}},
		{none, []int{3, 2}, []int{2, 3}},
		{0, []int{0, 1, 2, 3}, []int{1, 2, 3, 0}},
		{1, []int{0, 1, 2, 3}, []int{2, 3, 0, 1}},
		{2, []int{0, 1, 2, 3}, []int{3, 0, 1, 2}},
		{3, []int{0, 1, 2, 3}, []int{0, 1, 2, 3}},
		{0, []int{0, 3}, []int{3, 0}},
		{1, []int{0, 1}, []int{0, 1}},
		{2, []int{1, 2}, []int{1, 2}},
		{2, []int{2}, []int{2}},
		{3, []int{2, 3}, []int{2, 3}},
	} {
		a := bus.New()
		if c.last != none {
			a = ticks(t, ask(t, a, c.last, 0), c.last)
		}
		for _, m := range c.asked {
			a = ask(t, a, m, 0)
		}
		ticks(t, a, append(c.want, none)...)
	}
}

// The turn goes on from the one that was served last, however long ago.
func TestTheTurnIsKept(t *testing.T) {
	a := ticks(t, ask(t, bus.New(), 1, 1), none, 1, none, none, none)
	for m := range masters {
		a = ask(t, a, m, 0)
	}
	ticks(t, a, 2, 3, 0, 1)
}

// Who requests while another is being served has its turn before those that
// the order has later, though they requested earlier.
func TestRequestsDuringAnAccess(t *testing.T) {
	a := ticks(t, ask(t, bus.New(), 1, 3), none)
	a = ask(t, a, 0, 0)
	a = ticks(t, a, none)
	a = ask(t, ask(t, a, 3, 1), 2, 0)
	stands(t, a, 1, 0, 2, 3)
	a = ticks(t, a, none, 1)
	stands(t, a, none, 0, 2, 3)
	a = ticks(t, a, 2, none)
	stands(t, a, 3, 0)
	a = ask(t, ask(t, a, 1, 0), 2, 0)
	ticks(t, a, 3, 0, 1, 2, none)
}

// A request that is made before a tick is served in it.
func TestRequestsAfterACompletion(t *testing.T) {
	a := ticks(t, ask(t, bus.New(), 2, 0), 2)
	a = ticks(t, ask(t, a, 2, 0), 2)
	ticks(t, ask(t, ask(t, a, 2, 0), 3, 0), 3, 2, none)
}

func TestAskOfNoMaster(t *testing.T) {
	idle := bus.New()
	busy := ask(t, ticks(t, ask(t, idle, 0, 5), none), 1, 0)
	for _, m := range strangers {
		for _, waits := range append([]int{0, 1, 15}, wrong...) {
			refuses(t, idle, m, waits, api.ErrArg)
			refuses(t, busy, m, waits, api.ErrArg)
		}
	}
}

func TestAskWithWrongWaits(t *testing.T) {
	idle := bus.New()
	// 0 is being served and 1 has requested: ErrArg comes first all the same.
	busy := ask(t, ticks(t, ask(t, idle, 0, 5), none), 1, 0)
	for m := range masters {
		for _, waits := range wrong {
			refuses(t, idle, m, waits, api.ErrArg)
			refuses(t, busy, m, waits, api.ErrArg)
		}
	}
	stands(t, busy, 0, 1)
	ticks(t, busy, none, none, none, none, 0, 1, none)
}

func TestAskTwice(t *testing.T) {
	for m := range masters {
		a := ask(t, bus.New(), m, 2)
		for waits := range bus.MaxWait + 1 {
			refuses(t, a, m, waits, api.ErrState)
		}
		for range 2 {
			a = ticks(t, a, none)
			for waits := range bus.MaxWait + 1 {
				refuses(t, a, m, waits, api.ErrState)
			}
		}
		a = ticks(t, a, m)
		ticks(t, ask(t, a, m, 1), none, m, none)
	}
}

// While one is being served, only that one and those that wait are refused.
func TestOthersMayAsk(t *testing.T) {
	for m := range masters {
		a := ticks(t, ask(t, bus.New(), m, 15), none)
		for other := range masters {
			if other != m {
				a = ask(t, a, other, 15)
				refuses(t, a, other, 0, api.ErrState)
			}
		}
		refuses(t, a, m, 0, api.ErrState)
	}
}

func TestDrop(t *testing.T) {
	a := ask(t, ask(t, ask(t, bus.New(), 0, 0), 1, 4), 2, 0)
	a = a.Drop(1)
	stands(t, a, none, 0, 2)
	ticks(t, a, 0, 2, none)
	// It may request again, with other waits.
	ticks(t, ask(t, a, 1, 1), 0, none, 1, 2, none)
}

// A master that is dropped has not had its turn.
func TestDropKeepsTheTurn(t *testing.T) {
	a := ask(t, bus.New(), 0, 3).Drop(0)
	if a != bus.New() {
		t.Error("a dropped request leaves something behind")
	}
	a = ask(t, ask(t, a, 0, 0), 1, 0)
	ticks(t, a, 0, 1)
}

func TestDropOfTheServedOne(t *testing.T) {
	for m := range masters {
		a := ticks(t, ask(t, bus.New(), m, 2), none)
		if a.Drop(m) != a {
			t.Errorf("master %d: an access that is being served is changed", m)
		}
		a = a.Drop(m)
		stands(t, a, m)
		refuses(t, a, m, 0, api.ErrState)
		ticks(t, a, none, m, none)
	}
}

func TestDropOfNothing(t *testing.T) {
	a := ask(t, ticks(t, ask(t, bus.New(), 2, 4), none), 3, 1)
	for _, m := range append([]int{0, 1}, strangers...) {
		if a.Drop(m) != a || bus.New().Drop(m) != bus.New() {
			t.Errorf("master %d: dropping what is not there changes the arbiter", m)
		}
	}
}

// Changing an arbiter does not change any other.
func TestArbitersAreValues(t *testing.T) {
	a := ask(t, ticks(t, ask(t, bus.New(), 0, 2), none), 3, 1)
	kept := a
	ask(t, a, 1, 0)
	a.Drop(3)
	a.Tick()
	b := ticks(t, ask(t, a, 2, 7).Drop(3), none, 0)
	b.Drop(2)
	asked := a.Asked()
	asked[1], asked[3] = true, false
	if a != kept {
		t.Error("the arbiter has changed")
	}
	stands(t, a, 0, 3)
	ticks(t, a, none, 0, none, 3, none)
}

// Arbiters that have come to the same point by different ways are equal.
func TestEqualArbiters(t *testing.T) {
	a := ask(t, ask(t, bus.New(), 0, 1), 2, 9)
	b := ask(t, ask(t, bus.New(), 2, 9), 0, 1)
	if a != b {
		t.Error("the order of requests makes a difference")
	}
	if b = ask(t, ask(t, b, 1, 15), 3, 0).Drop(3).Drop(1); a != b {
		t.Error("dropped requests make a difference")
	}
	a = ticks(t, a, none, 0).Drop(2)
	b = ticks(t, ask(t, bus.New(), 0, 0), 0)
	if a != b {
		t.Error("the waits of an access that is complete make a difference")
	}
	for m := range masters {
		b = ticks(t, ask(t, bus.New(), m, 0), m)
		if m == 3 && b != bus.New() {
			t.Error("an arbiter that begins with 0 again is not as a new one")
		}
		if m != 3 && b == bus.New() {
			t.Errorf("after %d, the turn is as at first", m)
		}
	}
	if ask(t, a, 1, 2) == ask(t, a, 1, 3) {
		t.Error("the waits make no difference")
	}
}

func TestBound(t *testing.T) {
	for _, c := range []struct {
		l    []int
		want int
	}{
		{nil, 0},
		{[]int{0}, 1},
		{[]int{15}, 16},
		{[]int{2, 0}, 4},
		{[]int{0, 0, 0, 0}, 4},
		{[]int{15, 15, 15, 15}, 64},
		{[]int{0, 1, 2, 3, 4, 5, 6}, 28},
		{[]int{7, 7, 15, 15, 15}, 64},
		{[]int{1000000}, 1000001},
		{[]int{math.MaxInt - 2, 0}, math.MaxInt},
	} {
		kept := append([]int(nil), c.l...)
		if got := bus.Bound(c.l...); got != c.want {
			t.Errorf("%v: %d, not %d", c.l, got, c.want)
		}
		for i := range kept {
			if c.l[i] != kept[i] {
				t.Errorf("%v has become %v", kept, c.l)
			}
		}
	}
	if bus.Bound() != 0 || bus.Bound(make([]int, 1000)...) != 1000 {
		t.Error("none, or many")
	}
	// Whatever it is given, it ends.
	bus.Bound(math.MaxInt, math.MaxInt, math.MinInt, -1)
}
