package bus_test

import (
	"math/rand"
	"testing"

	"curtilage/api"
	"curtilage/bus"
)

// model is an arbiter once more, by a queue of the masters and a clock.
type model struct {
	now    int
	queue  []int       // all masters, the next one first
	wants  map[int]int // the waits of those that have requested
	serves int
	until  int // in which tick the access completes that is being served
}

func newModel() *model {
	return &model{queue: []int{0, 1, 2, 3}, wants: map[int]int{}, serves: none}
}

func (m *model) copy() *model {
	c := *m
	c.wants = map[int]int{}
	for who, waits := range m.wants {
		c.wants[who] = waits
	}
	return &c
}

func (m *model) ask(who, waits int) api.Errno {
	if who < 0 || who > 3 || waits < 0 || waits > 15 {
		return api.ErrArg
	}
	if _, twice := m.wants[who]; twice || who == m.serves {
		return api.ErrState
	}
	m.wants[who] = waits
	return api.OK
}

func (m *model) tick() int {
	m.now++
	if m.serves == none {
		m.begin()
	}
	if m.serves == none || m.now < m.until {
		return none
	}
	who := m.serves
	m.serves = none
	return who
}

func (m *model) begin() {
	for i, who := range m.queue {
		if waits, ok := m.wants[who]; ok {
			delete(m.wants, who)
			m.serves, m.until = who, m.now+waits
			m.queue = append(append([]int{}, m.queue[i+1:]...), m.queue[:i+1]...)
			return
		}
	}
}

// agree holds that an arbiter and its model show the same.
func agree(t *testing.T, a bus.Arbiter, m *model) {
	t.Helper()
	var asked []int
	for who := range m.wants {
		asked = append(asked, who)
	}
	stands(t, a, m.serves, asked...)
	if t.Failed() {
		t.FailNow()
	}
}

// call makes call number n of an arbiter and its model.
func call(t *testing.T, n int, a bus.Arbiter, m *model) bus.Arbiter {
	t.Helper()
	switch {
	case n == 0:
		next, got := a.Tick()
		if want := m.tick(); got != want {
			t.Fatalf("a tick returns %d, not %d", got, want)
		}
		return next
	case n <= masters:
		delete(m.wants, n-1)
		return a.Drop(n - 1)
	}
	n -= masters + 1
	who, waits := n%masters, n/masters
	next, got := a.Ask(who, waits)
	if want := m.ask(who, waits); got != want {
		t.Fatalf("master %d with %d waits: error %d, not %d", who, waits, got, want)
	}
	return next
}

// The calls that are tried after each other: a tick, the drops, and requests
// with up to 2 waits.
const calls = 1 + masters + 3*masters

// walk tries every sequence of calls. All of them go on from the same
// arbiter, which none of them may change.
func walk(t *testing.T, left int, a bus.Arbiter, m *model) {
	agree(t, a, m)
	if left == 0 {
		return
	}
	kept := a
	for n := range calls {
		c := m.copy()
		walk(t, left-1, call(t, n, a, c), c)
	}
	if a != kept {
		t.Fatal("an arbiter has changed")
	}
}

func TestEverySequence(t *testing.T) {
	a := bus.New()
	m := newModel()
	walk(t, 4, a, m)
	// And from where all four have requested, and one is being served.
	for n := range masters {
		a = call(t, masters+1+n+masters*(n%3), a, m)
	}
	walk(t, 4, a, m)
	a = call(t, 0, call(t, 0, a, m), m)
	walk(t, 4, a, m)
}

func TestManyCalls(t *testing.T) {
	r := rand.New(rand.NewSource(13))
	for range 200 {
		a, m := bus.New(), newModel()
		often := r.Intn(20) + 1
		for range 500 {
			n := 0
			if r.Intn(often) < 3 {
				n = r.Intn(1 + masters + (bus.MaxWait+2)*masters)
			}
			a = call(t, n, a, m)
			agree(t, a, m)
		}
	}
}

// load is requests as they are made: the waits of each that is neither
// complete nor dropped, and how many ticks each may take yet.
type load struct {
	waits map[int]int
	left  map[int]int
}

// ask makes a request if it may be made. It must complete within the bound:
// all accesses of now, and one more of each other master.
func (l *load) ask(t *testing.T, a bus.Arbiter, who, waits int) bus.Arbiter {
	t.Helper()
	if _, twice := l.waits[who]; twice {
		return a
	}
	a = ask(t, a, who, waits)
	l.waits[who] = waits
	all := []int{bus.MaxWait, bus.MaxWait, bus.MaxWait}
	for _, waits := range l.waits {
		all = append(all, waits)
	}
	l.left[who] = bus.Bound(all...)
	return a
}

// tick holds that what the tick completes was asked for, and that nothing has
// waited for too long.
func (l *load) tick(t *testing.T, a bus.Arbiter) bus.Arbiter {
	t.Helper()
	a, done := a.Tick()
	if _, there := l.waits[done]; !there && done != none {
		t.Fatalf("%d completes what it has not asked for", done)
	}
	for who := range l.left {
		l.left[who]--
		if l.left[who] < 0 {
			t.Fatalf("%d is not served within the bound", who)
		}
	}
	delete(l.waits, done)
	delete(l.left, done)
	return a
}

func (l *load) drop(a bus.Arbiter, who int) bus.Arbiter {
	if a.Serves() != who {
		delete(l.waits, who)
		delete(l.left, who)
	}
	return a.Drop(who)
}

func newLoad() *load { return &load{map[int]int{}, map[int]int{}} }

// Each request completes within the bound, whatever the others do.
func TestRequestsAreBounded(t *testing.T) {
	r := rand.New(rand.NewSource(132))
	for range 200 {
		a, l := bus.New(), newLoad()
		eager := r.Intn(100) + 1
		for range 500 {
			for who := range masters {
				switch n := r.Intn(100); {
				case n < eager:
					a = l.ask(t, a, who, r.Intn(bus.MaxWait+1))
				case n == 99:
					a = l.drop(a, who)
				}
			}
			a = l.tick(t, a)
		}
	}
}

// Nobody starves beside three that ask for as much as they can, as soon as
// they can, whoever has the first turn.
func TestNobodyStarves(t *testing.T) {
	for weak := range masters {
		for first := range masters {
			a := ticks(t, ask(t, bus.New(), first, 0), first)
			l := newLoad()
			served := 0
			for range 640 {
				for who := range masters {
					if who != weak {
						a = l.ask(t, a, who, bus.MaxWait)
					}
				}
				a = l.tick(t, l.ask(t, a, weak, 0))
				if _, waits := l.waits[weak]; !waits {
					served++
				}
			}
			// A round of all four takes 49 ticks.
			if served < 640/49 {
				t.Errorf("master %d is served %d times", weak, served)
			}
		}
	}
}
