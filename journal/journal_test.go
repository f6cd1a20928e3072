package journal_test

import (
	"bytes"
	"encoding/hex"
	"math"
	"testing"

	"curtilage/api"
	"curtilage/journal"
)

func TestFirst(t *testing.T) {
	if got := journal.First(); got != (journal.State{Seq: 0, Active: 0, Trial: -1, Tries: 0}) || !got.Right() {
		t.Errorf("%v", got)
	}
}

func TestTheExample(t *testing.T) {
	f := blankOf(t, api.Pages)
	want := journal.First()
	want.Seq = 1
	l := journal.Next(f, journal.First())
	sameOps(t, l, rewriting(32, want)...)
	answered(t, journal.Do(f, nil, l...), api.OK)
	stored(t, f, want, 32)
}

// known has records that another program has put together.
var known = []struct {
	s      journal.State
	record string
}{
	{journal.State{Seq: 0, Active: 0, Trial: -1, Tries: 0}, "4243544c0000000000000000393e3095711fc2bfae4f5c8f396a90172f5e5d8c"},
	{journal.State{Seq: 1, Active: 0, Trial: -1, Tries: 0}, "4243544c000000010000000054c23b6c0d6803e9cb1a1b31dc1a99f23e92a24c"},
	{journal.State{Seq: 2, Active: 0, Trial: 1, Tries: 0}, "4243544c00000002000200000dfe9a1f4ad6e6c4e854471a852d4a4439438697"},
	{journal.State{Seq: 0x01020304, Active: 1, Trial: 0, Tries: 3}, "4243544c010203040101030045609e2f590a28b67e2128e3f6783218f8da3f26"},
	{journal.State{Seq: math.MaxUint32, Active: 1, Trial: 1, Tries: 2}, "4243544cffffffff0102020018f63d2bb0f32eb8e13a91935e4ff8994eea386b"},
	{journal.State{Seq: 1 << 31, Active: 1, Trial: -1, Tries: 0}, "4243544c8000000001000000350d30e924463cd493be3089ee6e24285454f43b"},
}

func TestKnownRecords(t *testing.T) {
	for _, k := range known {
		if got := hex.EncodeToString(k.s.Bytes()); got != k.record {
			t.Errorf("%v: %s", k.s, got)
		}
		p, _ := hex.DecodeString(k.record)
		if got, ok := journal.Parse(p); !ok || got != k.s {
			t.Errorf("%s: %v, %t", k.record, got, ok)
		}
	}
}

// seqs are some of the sequence numbers.
var seqs = []uint32{0, 1, 2, 255, 256, 0x01020304, math.MaxInt32, 1 << 31, 1<<31 + 1, math.MaxUint32 - 1, math.MaxUint32}

func TestEveryState(t *testing.T) {
	for _, seq := range seqs {
		for _, s := range states(seq) {
			if !s.Right() {
				t.Fatalf("%v is not right", s)
			}
			p := s.Bytes()
			if !bytes.Equal(p, recordOf(s)) {
				t.Fatalf("%v: record %x", s, p)
			}
			if got, ok := journal.Parse(p); !ok || got != s {
				t.Fatalf("%v: the record is that of %v, %t", s, got, ok)
			}
		}
	}
}

func TestRight(t *testing.T) {
	rights := 0
	for active := -3; active < 6; active++ {
		for trial := -3; trial < 6; trial++ {
			for tries := -3; tries < 8; tries++ {
				s := journal.State{Seq: 9, Active: active, Trial: trial, Tries: tries}
				want := false
				for _, x := range states(9) {
					want = want || x == s
				}
				if s.Right() != want {
					t.Errorf("%v: %t", s, s.Right())
				}
				if want {
					rights++
				}
			}
		}
	}
	if rights != 18 {
		t.Errorf("%d states are right", rights)
	}
}

func TestStatesThatThereAreNot(t *testing.T) {
	f := flashOf(t, recordOf(journal.State{Seq: 4, Trial: 1}), nil)
	for _, s := range wrong() {
		if s.Right() {
			t.Errorf("%v is right", s)
		}
		if p := s.Bytes(); len(p) != 0 {
			t.Errorf("%v: record %x", s, p)
		}
		sameOps(t, journal.Next(f, s))
		sameOps(t, journal.Next(nil, s))
	}
}

// notParsed holds that p is no record.
func notParsed(t *testing.T, p []byte) {
	t.Helper()
	if got, ok := journal.Parse(p); ok || got != (journal.State{}) {
		t.Fatalf("%x: %v, %t", p, got, ok)
	}
}

func TestRecordsOfAnotherLength(t *testing.T) {
	notParsed(t, nil)
	for _, s := range states(7) {
		long := append(recordOf(s), some(100)...)
		for n := range len(long) {
			if n != 32 {
				notParsed(t, long[:n])
			}
		}
		notParsed(t, append([]byte{0}, recordOf(s)...))
		notParsed(t, recordOf(s)[1:])
	}
}

// Every bit of a record counts.
func TestRecordsWithOtherBits(t *testing.T) {
	for _, seq := range seqs {
		for _, s := range states(seq) {
			for i := range 32 {
				for k := range 8 {
					p := recordOf(s)
					p[i] ^= 1 << k
					notParsed(t, p)
				}
				for _, v := range []byte{0, 0xff} {
					if p := recordOf(s); p[i] != v {
						p[i] = v
						notParsed(t, p)
					}
				}
			}
		}
	}
}

// What has the right hash is no record yet.
func TestRecordsOfStatesThatThereAreNot(t *testing.T) {
	for v := range 256 {
		b := byte(v)
		for _, p := range [][]byte{
			written(5, b, 0, 0, 0), written(5, b, 2, 3, 0),
			written(5, 0, b, 0, 0), written(5, 1, b, 1, 0),
			written(5, 0, 0, b, 0), written(5, 0, 1, b, 0), written(5, 1, 2, b, 0),
			written(5, 0, 0, 0, b), written(5, 1, 2, 3, b),
		} {
			want, wantOk := parsed(p)
			if got, ok := journal.Parse(p); got != want || ok != wantOk {
				t.Errorf("%x: %v, %t, not %v, %t", p, got, ok, want, wantOk)
			}
		}
	}
	for _, mark := range []string{"bCTL", "BCTl", "CURT", "TOKN", "LTCB", "\x00\x00\x00\x00", "\xff\xff\xff\xff"} {
		p := written(5, 0, 0, 0, 0)
		notParsed(t, summed(append([]byte(mark), p[4:12]...)))
	}
	notParsed(t, make([]byte, 32))
	notParsed(t, full(32))
	notParsed(t, some(32))
	notParsed(t, summed(full(12)))
	notParsed(t, summed(make([]byte, 12)))
}

// records are what a page of the journal may begin with.
func records() [][]byte {
	l := [][]byte{nil, some(32), make([]byte, 32), full(32), recordOf(journal.State{Seq: 50, Trial: -1})[:31], summed(full(12))}
	for i, seq := range seqs {
		all := states(seq)
		l = append(l, recordOf(all[i%18]), recordOf(all[(i+7)%18]))
	}
	return append(l, written(99, 0, 0, 1, 0), written(99, 2, 0, 0, 0), written(99, 0, 0, 0, 1))
}

func TestRead(t *testing.T) {
	at := map[int]int{}
	for _, a := range records() {
		for _, b := range records() {
			f := flashOf(t, a, b)
			answered(t, f.Write(32*page+len(a), some(page-len(a))), api.OK) // what follows is nobody's
			mem := memOf(t, f)
			want, wantAt := read(mem)
			stored(t, f, want, wantAt)
			stored(t, f, want, wantAt)
			if !bytes.Equal(memOf(t, f), mem) {
				t.Fatal("Read changes the flash")
			}
			at[wantAt]++
		}
	}
	if at[-1] < 50 || at[32] < 200 || at[33] < 200 {
		t.Errorf("%v", at)
	}
}

func TestReadOfTwoRecords(t *testing.T) {
	a, b := journal.State{Active: 0, Trial: 1, Tries: 2}, journal.State{Active: 1, Trial: -1}
	for _, x := range seqs {
		for _, y := range seqs {
			a.Seq, b.Seq = x, y
			f := flashOf(t, recordOf(a), recordOf(b))
			if x >= y {
				stored(t, f, a, 32)
			} else {
				stored(t, f, b, 33)
			}
		}
		a.Seq, b.Seq = x, x
		stored(t, flashOf(t, recordOf(a), nil), a, 32)
		stored(t, flashOf(t, nil, recordOf(b)), b, 33)
	}
}

func TestReadWhereThereIsNothing(t *testing.T) {
	stored(t, nil, journal.First(), -1)
	stored(t, blankOf(t, api.Pages), journal.First(), -1)
	a, b := journal.State{Seq: 3, Active: 1, Trial: 0, Tries: 1}, journal.State{Seq: 4, Active: 1, Trial: -1}
	for _, pages := range []int{0, 1, 31, 32, 33, 34, 35, 40, 1024} {
		f := blankOf(t, pages)
		f.Write(32*page, recordOf(a))
		f.Write(33*page, recordOf(b))
		switch {
		case pages < 33:
			stored(t, f, journal.First(), -1)
		case pages < 34:
			stored(t, f, a, 32)
		default:
			stored(t, f, b, 33)
		}
	}
}

// Only the beginnings of two pages count.
func TestRecordsElsewhere(t *testing.T) {
	s := journal.State{Seq: 9, Active: 1, Trial: -1}
	for at := 0; at+32 <= api.Pages*page; at++ {
		if at%page > 40 && at%page < 220 || at == 32*page || at == 33*page {
			continue
		}
		f := blankOf(t, api.Pages)
		answered(t, f.Write(at, recordOf(s)), api.OK)
		stored(t, f, journal.First(), -1)
	}
}

func TestNext(t *testing.T) {
	none := 0
	for _, a := range records() {
		for _, b := range records() {
			f := flashOf(t, a, b)
			mem := memOf(t, f)
			last, at := read(mem)
			for _, seq := range []uint32{0, last.Seq, 12345, math.MaxUint32} {
				for _, s := range states(seq)[seq%3 : 18-seq%5] {
					l := journal.Next(f, s)
					if last.Seq == math.MaxUint32 {
						sameOps(t, l)
						none++
						continue
					}
					s.Seq = last.Seq + 1
					sameOps(t, l, rewriting(map[int]int{-1: 32, 32: 33, 33: 32}[at], s)...)
				}
			}
			if !bytes.Equal(memOf(t, f), mem) {
				t.Fatal("Next changes the flash")
			}
		}
	}
	if none < 1000 {
		t.Errorf("no operations %d times", none)
	}
}

// Next tells what to do also where it cannot be done.
func TestNextWhereThereIsNothing(t *testing.T) {
	a := journal.State{Seq: 1, Active: 1, Trial: 0, Tries: 1}
	sameOps(t, journal.Next(nil, a), rewriting(32, a)...)
	for _, pages := range []int{0, 1, 32} {
		f := blankOf(t, pages)
		l := journal.Next(f, a)
		sameOps(t, l, rewriting(32, a)...)
		answered(t, journal.Do(f, nil, l...), api.ErrMap)
	}
	f := blankOf(t, 33)
	answered(t, journal.Do(f, nil, journal.Next(f, a)...), api.OK)
	stored(t, f, a, 32)
	a.Seq = 2
	sameOps(t, journal.Next(f, a), rewriting(33, a)...)
	answered(t, journal.Do(f, nil, journal.Next(f, a)...), api.ErrMap)
	a.Seq = 1
	stored(t, f, a, 32)
}

// One state after the other is stored, on one page and the other in turn.
func TestManyStates(t *testing.T) {
	f := blankOf(t, api.Pages)
	n := uint32(0)
	for range 5 {
		for _, s := range states(77) {
			before := memOf(t, f)
			answered(t, journal.Do(f, nil, journal.Next(f, s)...), api.OK)
			n++
			s.Seq = n
			at := 32 + int(n-1)%2
			stored(t, f, s, at)
			want := over(over(before, at*page, full(page)), at*page, recordOf(s))
			if !bytes.Equal(memOf(t, f), want) {
				t.Fatal("other bytes are changed")
			}
		}
	}
}

// The last sequence number is reached, and left no more.
func TestTheLastState(t *testing.T) {
	s := journal.State{Seq: math.MaxUint32 - 1, Active: 1, Trial: -1}
	f := flashOf(t, nil, recordOf(s))
	answered(t, journal.Do(f, nil, journal.Next(f, s)...), api.OK)
	s.Seq++
	stored(t, f, s, 32)
	sameOps(t, journal.Next(f, s))
	sameOps(t, journal.Next(f, journal.First()))
}
