package journal_test

import (
	"bytes"
	"math"
	"math/rand"
	"testing"

	"curtilage/api"
	"curtilage/flash"
	"curtilage/journal"
)

// pasts returns what the journal's pages may be when a state is stored.
func pasts(t *testing.T) []*flash.Flash {
	t.Helper()
	a, b := journal.State{Seq: 4, Active: 1, Trial: -1}, journal.State{Seq: 5, Active: 0, Trial: 1, Tries: 2}
	c := journal.State{Seq: 4, Active: 0, Trial: 0, Tries: 3}
	last := journal.State{Seq: math.MaxUint32 - 1, Active: 1, Trial: 1}
	var l []*flash.Flash
	for _, p := range [][]byte{nil, some(page), recordOf(a), recordOf(b), recordOf(c), recordOf(last), make([]byte, page), recordOf(b)[:20]} {
		for _, q := range [][]byte{nil, some(page)[:77], recordOf(a), recordOf(b), recordOf(c), recordOf(last), make([]byte, page)} {
			l = append(l, flashOf(t, p, q))
		}
	}
	return l
}

// masks returns which bits are changed when the power fails: a beginning, an
// end, all but one byte or one bit, one byte or one bit, some.
func masks() [][]byte {
	l := [][]byte{nil, full(page), some(page), some(page + 1)[1:]}
	for n := range 34 {
		l = append(l, full(n), over(full(page), 0, make([]byte, n)))
		l = append(l, over(full(page), n, []byte{0}), over(make([]byte, page), n, []byte{0xff}))
	}
	for n := range 32 * 8 {
		bit := byte(1) << (n % 8)
		l = append(l, over(full(page), n/8, []byte{^bit}), over(make([]byte, page), n/8, []byte{bit}))
	}
	return l
}

// Wherever the power fails, the state is the one before or the new one, and
// the new one can be stored then.
func TestEveryTear(t *testing.T) {
	news := []journal.State{{Active: 1, Trial: 0, Tries: 1}, {Active: 0, Trial: -1}}
	tears := masks()
	for _, past := range pasts(t) {
		before, at := journal.Read(past)
		for _, s := range news {
			l := journal.Next(past, s)
			s.Seq = before.Seq + 1
			for done := range l {
				ready := past.Copy()
				answered(t, journal.Do(ready, nil, l[:done]...), api.OK)
				for _, mask := range tears {
					f := ready.Copy()
					answered(t, journal.Tear(f, nil, l[done], mask), api.OK)
					got, _ := journal.Read(f)
					if got == s && done == 1 {
						continue
					}
					stored(t, f, before, at)
					answered(t, journal.Do(f, nil, journal.Next(f, s)...), api.OK)
					if got, _ := journal.Read(f); got != s {
						t.Fatalf("%v, not %v", got, s)
					}
				}
			}
		}
	}
}

// A record that is not complete is none, and one that is complete is one.
func TestTornRecords(t *testing.T) {
	f := blankOf(t, api.Pages)
	s := journal.State{Active: 1, Trial: -1}
	l := journal.Next(f, s)
	s.Seq = 1
	for n := range 40 {
		g := f.Copy()
		answered(t, journal.Do(g, nil, l[0]), api.OK)
		answered(t, journal.Tear(g, nil, l[1], full(n)), api.OK)
		if n < 32 {
			stored(t, g, journal.First(), -1)
		} else {
			stored(t, g, s, 32)
		}
	}
}

// However often the power fails, there is the state before or the new one.
func TestManyTears(t *testing.T) {
	r := rand.New(rand.NewSource(23))
	same, changed := 0, 0
	for range 20 {
		f := blankOf(t, api.Pages)
		answered(t, f.Write(32*page, some(2*page)), api.OK)
		state := journal.First()
		for range 200 {
			s := states(9)[r.Intn(18)]
			l := journal.Next(f, s)
			s.Seq = state.Seq + 1
			done := r.Intn(len(l) + 1)
			answered(t, journal.Do(f, nil, l[:done]...), api.OK)
			if done < len(l) {
				answered(t, journal.Tear(f, nil, l[done], torn(r)), api.OK)
			}
			switch got, _ := journal.Read(f); {
			case got == s && done > 0:
				state = s
				changed++
			case got == state && done < len(l):
				same++
			default:
				t.Fatalf("%v, neither %v nor %v", got, state, s)
			}
		}
	}
	if same < 1000 || changed < 1000 {
		t.Errorf("%d and %d times", same, changed)
	}
}

// torn returns few, some or many bits.
func torn(r *rand.Rand) []byte {
	p := make([]byte, r.Intn(page+1))
	r.Read(p)
	for i := range p {
		switch r.Intn(4) {
		case 0:
			p[i] = 0
		case 1:
			p[i] = 0xff
		}
	}
	return p
}

func TestResultsAreOfTheirOwn(t *testing.T) {
	f := flashOf(t, recordOf(journal.State{Seq: 6, Trial: -1}), nil)
	mem := memOf(t, f)
	s := journal.State{Active: 1, Trial: 0, Tries: 3}
	first := journal.Next(f, s)
	a, b := s.Bytes(), s.Bytes()
	clear(a[:cap(a)])
	if !bytes.Equal(b, recordOf(s)) {
		t.Error("two records share memory")
	}
	for _, o := range first {
		clear(o.Bytes[:cap(o.Bytes)])
	}
	clear(first[:cap(first)])
	s.Seq = 7
	sameOps(t, journal.Next(f, s), rewriting(33, s)...)
	if !bytes.Equal(memOf(t, f), mem) {
		t.Error("an operation shares memory with the flash")
	}
}

func TestArgumentsAreLeftAloneAndNotKept(t *testing.T) {
	f := blankOf(t, 3)
	store := some(600)
	kept := bytes.Clone(store)
	l := []journal.Op{
		{Kind: journal.Write, Page: 0, At: 5, Bytes: store[10:200]},
		{Kind: journal.Erase, Page: 1, Bytes: store[200:300]},
		{Kind: journal.Write, Page: 2, Bytes: store[:0]},
		{Kind: journal.Write, Page: 1, Bytes: store[:page]},
	}
	answered(t, journal.Do(f, nil, l[:3]...), api.OK)
	answered(t, journal.Tear(f, nil, l[3], store[300:400]), api.OK)
	answered(t, journal.Tear(f, nil, l[1], store[50:60]), api.OK)
	sameOps(t, l, []journal.Op{
		{Kind: 2, At: 5, Bytes: kept[10:200]}, {Kind: 1, Page: 1, Bytes: kept[200:300]}, {Kind: 2, Page: 2}, {Kind: 2, Page: 1, Bytes: kept[:page]},
	}...)
	p := recordOf(journal.State{Seq: 3, Trial: -1})
	long := append(bytes.Clone(p), store...)
	journal.Parse(long[:32])
	if !bytes.Equal(store, kept) || !bytes.Equal(long[:32], p) || !bytes.Equal(long[32:], kept) {
		t.Error("an argument is changed")
	}
	mem := memOf(t, f)
	clear(store)
	if !bytes.Equal(memOf(t, f), mem) {
		t.Error("an argument is kept")
	}
}
