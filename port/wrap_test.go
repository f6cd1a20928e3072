package port

import "testing"

// The time goes on behind the greatest number, at 0, where no timer fires.
func TestTheTimeWrapsRound(t *testing.T) {
	p := &Port{time: 1<<32 - 3}
	var regs [64]byte
	copy(regs[12:], Bytes(1<<32-2))
	for i, want := range []bool{true, true, false, false} {
		if got := p.Tick(&regs); got != want {
			t.Errorf("tick %d: fired %v", i, got)
		}
	}
	if p.Time() != 1 || Number(regs[16:20]...) != 1 {
		t.Errorf("the time is %d", p.Time())
	}
}
