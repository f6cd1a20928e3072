// Package position checks positions in slices, for the layers that number what
// they keep.
package position

// In tells whether the slice has a position i.
func In[T any](i int, l []T) bool { return i >= 0 && i < len(l) }
