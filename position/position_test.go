package position_test

import (
	"math"
	"testing"

	"curtilage/position"
)

// holds holds which of the positions around its bounds a slice has.
func holds[T any](t *testing.T, l []T) {
	t.Helper()
	for i := -10; i < len(l)+10; i++ {
		if got := position.In(i, l); got != (0 <= i && i < len(l)) {
			t.Errorf("position %d of %d: %t", i, len(l), got)
		}
	}
	for _, i := range []int{math.MinInt, math.MinInt32, -1 << 32, 1 << 32, 1<<32 + 1, math.MaxInt32, math.MaxInt} {
		if position.In(i, l) {
			t.Errorf("position %d of %d", i, len(l))
		}
	}
}

func TestIn(t *testing.T) {
	for n := range 20 {
		holds(t, make([]byte, n))
		holds(t, make([][32]byte, n))
		holds(t, make([]struct{}, n))
		holds(t, make([]string, n, n+5)) // the spare capacity does not count
	}
	holds[int](t, nil)
	holds(t, []error{nil})
}
