package grant_test

import (
	"math"
	"math/rand"
	"strconv"
	"strings"
	"testing"

	"curtilage/api"
	"curtilage/grant"
)

// area is a region of the document's table.
type area struct {
	region int
	base   uint32
	size   int
}

// areas is the document's memory map, by its numbers.
var areas = []area{
	{1, 0x20000000, 4096},
	{2, 0x20001000, 4096},
	{3, 0x10000000, 10240},
	{4, 0x40000000, 64},
	{5, 0x60000000, 256},
}

// table is the document's table of rights: for each stage and master, the
// numbers of regions, each with its letters.
var table = [3][4]string{
	{"1rw 2rw 3rw 4rw 5rw", "", "1rw 2rw 3r", "4rw"},
	{"", "1rx 2rw 3r 4rw 5r", "1r 2rw 3r", "4rw"},
	{"", "1rwx 2rw 3r 4rw 5r", "1r 2rw 3r", "1rw 2rw 4rw 3r 5r"},
}

// strangers are numbers of no master, stage or region, which have the low bits
// of some that there are.
var strangers = []int{-1, -2, -3, -4, -5, -64, 6, 7, 8, 9, 64, 65, 255, 256, 257, 1 << 32, 1<<32 + 1, 1<<32 + 2, -1 << 32, -1<<32 + 1,
	math.MaxInt32, math.MinInt32, math.MaxInt, math.MinInt, math.MinInt + 1}

// letters returns what the table has for a master, a stage and a region.
func letters(who, stage, region int) string {
	if who < 0 || who > 3 || stage < 0 || stage > 2 {
		return ""
	}
	for _, cell := range strings.Fields(table[stage][who]) {
		if cell[:1] == strconv.Itoa(region) {
			return cell[1:]
		}
	}
	return ""
}

// where looks an address up in the document's memory map.
func where(at uint32) (int, int) {
	for _, x := range areas {
		from := uint64(x.base)
		if to := from + uint64(x.size); uint64(at) >= from && uint64(at) < to {
			return x.region, int(uint64(at) - from)
		}
	}
	return 0, 0
}

// check is the document's Check, by its tables.
func check(a grant.Access) (int, int, api.Errno) {
	sizes := map[int]int{1: 1, 2: 2, 4: 4}
	if a.Who < 0 || a.Who > 3 || a.Stage < 0 || a.Stage > 2 || sizes[a.Size] == 0 || a.Write && a.Fetch {
		return 0, 0, api.ErrArg
	}
	if uint64(a.At)%uint64(a.Size) > 0 {
		return 0, 0, api.ErrAlign
	}
	region, offset := where(a.At)
	if region == 0 {
		return 0, 0, api.ErrMap
	}
	letter := "r"
	if a.Write {
		letter = "w"
	}
	if a.Fetch {
		letter = "x"
	}
	if !strings.Contains(letters(a.Who, a.Stage, region), letter) {
		return 0, 0, api.ErrDenied
	}
	return region, offset, api.OK
}

// checked holds what Check returns of an access.
func checked(t *testing.T, a grant.Access, region, offset int, e api.Errno) {
	t.Helper()
	if r, o, got := grant.Check(a); r != region || o != offset || got != e {
		t.Errorf("%+v: region %d, offset %d, error %d, not %d, %d, %d", a, r, o, got, region, offset, e)
	}
}

// agrees holds that Check returns what the document's tables tell.
func agrees(t *testing.T, a grant.Access) {
	t.Helper()
	region, offset, e := check(a)
	checked(t, a, region, offset, e)
	if t.Failed() {
		t.FailNow()
	}
}

// edges are addresses around the first and the last ones of all regions.
func edges() []uint32 {
	l := []uint32{0, 1, 2, 4, 0x1000, 0x80000000, 0x7ffffffc, 0xa0000000, 0xe0000000, 0xfffffffc, 0xfffffffe, 0xffffffff}
	for _, x := range areas {
		for d := uint32(0); d < 10; d++ {
			l = append(l, x.base-5+d, x.base+uint32(x.size)-5+d)
		}
	}
	return l
}

func TestTheExamples(t *testing.T) {
	if region, offset := grant.Where(0x20000004); region != 1 || offset != 4 {
		t.Errorf("region %d, offset %d", region, offset)
	}
	checked(t, grant.Access{Who: api.Core, Stage: 1, At: 0x20000004, Size: 4, Write: true}, 0, 0, api.ErrDenied)
}

func TestTheRegionsByName(t *testing.T) {
	got := [...]int{grant.None, grant.Code, grant.Data, grant.Store, grant.Port, grant.Fuses}
	if want := [...]int{0, 1, 2, 3, 4, 5}; got != want {
		t.Errorf("%v, not %v", got, want)
	}
}

func TestWhereOfEveryByte(t *testing.T) {
	for _, x := range areas {
		for i := range x.size {
			at := x.base + uint32(i)
			if region, offset := grant.Where(at); region != x.region || offset != i {
				t.Fatalf("%x: region %d, offset %d, not %d, %d", at, region, offset, x.region, i)
			}
		}
	}
}

func TestWhereElsewhere(t *testing.T) {
	l := edges()
	for at := uint64(0); at < 1<<32; at += 1021 {
		l = append(l, uint32(at))
	}
	for _, x := range areas { // the same low bits elsewhere, and one bit off
		for k := range 32 {
			l = append(l, x.base^1<<k, x.base+uint32(x.size/2)^1<<k)
		}
	}
	for _, at := range l {
		region, offset := grant.Where(at)
		if r, o := where(at); region != r || offset != o {
			t.Fatalf("%x: region %d, offset %d, not %d, %d", at, region, offset, r, o)
		}
	}
}

// A few addresses without a region, by their numbers.
func TestWhereIsNone(t *testing.T) {
	for _, at := range []uint32{0, 0x0fffffff, 0x10002800, 0x1fffffff, 0x20002000, 0x3fffffff, 0x40000040, 0x5fffffff, 0x60000100, 0xffffffff} {
		if region, offset := grant.Where(at); region != grant.None || offset != 0 {
			t.Errorf("%x: region %d, offset %d", at, region, offset)
		}
	}
}

func TestBase(t *testing.T) {
	for _, x := range areas {
		if base, size := grant.Base(x.region); base != x.base || size != x.size {
			t.Errorf("region %d: %x, %d, not %x, %d", x.region, base, size, x.base, x.size)
		}
	}
	for _, region := range append([]int{0}, strangers...) {
		if base, size := grant.Base(region); base != 0 || size != 0 {
			t.Errorf("region %d: %x, %d", region, base, size)
		}
	}
}

func TestMay(t *testing.T) {
	for who := range 4 {
		for stage := range 3 {
			for region := range 6 {
				want := letters(who, stage, region)
				if got := grant.May(who, stage, region); got != want {
					t.Errorf("master %d, stage %d, region %d: %q, not %q", who, stage, region, got, want)
				}
			}
		}
	}
}

// Some of the table's rights, written out once more.
func TestSomeRights(t *testing.T) {
	for _, c := range []struct {
		who, stage, region int
		want               string
	}{
		{api.ROM, 0, grant.Fuses, "rw"},
		{api.ROM, 1, grant.Code, ""},
		{api.Core, 0, grant.Code, ""},
		{api.Core, 1, grant.Code, "rx"},
		{api.Core, 2, grant.Code, "rwx"},
		{api.Core, 2, grant.Store, "r"},
		{api.DMA, 0, grant.Code, "rw"},
		{api.DMA, 1, grant.Code, "r"},
		{api.DMA, 0, grant.Port, ""},
		{api.Host, 1, grant.Data, ""},
		{api.Host, 2, grant.Data, "rw"},
		{api.Host, 2, grant.Fuses, "r"},
	} {
		if got := grant.May(c.who, c.stage, c.region); got != c.want {
			t.Errorf("%+v: %q", c, got)
		}
	}
}

func TestMayOfNothing(t *testing.T) {
	for _, n := range append([]int{4, 5}, strangers...) {
		for i := range 4 {
			for region := range 6 {
				if s := grant.May(n, i, region); s != "" {
					t.Errorf("master %d, stage %d, region %d: %q", n, i, region, s)
				}
				if s := grant.May(i, n, region); s != "" {
					t.Errorf("master %d, stage %d, region %d: %q", i, n, region, s)
				}
			}
		}
	}
	for _, region := range append([]int{0}, strangers...) {
		for who := range 4 {
			for stage := range 4 {
				if s := grant.May(who, stage, region); s != "" {
					t.Errorf("master %d, stage %d, region %d: %q", who, stage, region, s)
				}
			}
		}
	}
	for who := range 4 {
		for region := range 6 {
			if s := grant.May(who, 3, region); s != "" {
				t.Errorf("master %d, stage 3, region %d: %q", who, region, s)
			}
		}
	}
}

// Every kind of access, by every master, in every stage, of all sizes, around
// all bounds.
func TestCheck(t *testing.T) {
	at := edges()
	for who := -1; who <= 4; who++ {
		for stage := -1; stage <= 3; stage++ {
			for size := -4; size <= 9; size++ {
				for kind := range 4 {
					for _, at := range at {
						agrees(t, grant.Access{Who: who, Stage: stage, At: at, Size: size, Write: kind%2 == 1, Fetch: kind/2 == 1})
					}
				}
			}
		}
	}
}

func TestCheckOfManyAccesses(t *testing.T) {
	r := rand.New(rand.NewSource(14))
	sizes := []int{1, 2, 4, 1, 2, 4, 3, 8}
	for range 200000 {
		x := areas[r.Intn(len(areas))]
		agrees(t, grant.Access{
			Who:   r.Intn(4),
			Stage: r.Intn(3),
			At:    x.base + uint32(r.Intn(x.size+x.size/4)),
			Size:  sizes[r.Intn(len(sizes))],
			Write: r.Intn(2) == 0,
			Fetch: r.Intn(3) == 0,
		})
	}
}

func TestCheckPermits(t *testing.T) {
	for _, a := range []grant.Access{
		{Who: api.ROM, At: 0x10000000, Size: 4, Write: true},
		{Who: api.ROM, At: 0x60000000, Size: 4},
		{Who: api.DMA, At: 0x20000000, Size: 1, Write: true},
		{Who: api.Host, At: 0x40000000, Size: 2, Write: true},
		{Who: api.Core, Stage: 1, At: 0x20000000, Size: 4, Fetch: true},
		{Who: api.Core, Stage: 1, At: 0x20001000, Size: 2, Write: true},
		{Who: api.Core, Stage: 2, At: 0x20000000, Size: 4, Write: true},
		{Who: api.Host, Stage: 2, At: 0x60000000, Size: 1},
	} {
		region, _ := grant.Where(a.At)
		checked(t, a, region, 0, api.OK)
		a.At += 4
		checked(t, a, region, 4, api.OK)
	}
	// The last bytes of each region, which the ROM may all write.
	for _, x := range areas {
		for _, size := range []int{1, 2, 4} {
			a := grant.Access{Who: api.ROM, At: x.base + uint32(x.size-size), Size: size, Write: true}
			checked(t, a, x.region, x.size-size, api.OK)
		}
	}
}

func TestMalformedAccesses(t *testing.T) {
	good := grant.Access{Who: api.Core, Stage: 1, At: 0x20001004, Size: 4}
	checked(t, good, 2, 4, api.OK)
	for _, n := range strangers {
		a := good
		a.Who = n
		checked(t, a, 0, 0, api.ErrArg)
		a = good
		a.Stage = n
		checked(t, a, 0, 0, api.ErrArg)
		a = good
		a.Size = n
		checked(t, a, 0, 0, api.ErrArg)
	}
	for _, size := range []int{0, 3, 5, 1<<32 + 4, 1 << 33, -1<<32 + 4} {
		a := good
		a.Size = size
		checked(t, a, 0, 0, api.ErrArg)
	}
	for who := range 4 {
		for stage := range 3 {
			// Also where both rights are there: the core's, of Code, in stage 2.
			for _, x := range areas {
				checked(t, grant.Access{Who: who, Stage: stage, At: x.base, Size: 4, Write: true, Fetch: true}, 0, 0, api.ErrArg)
			}
		}
	}
	checked(t, grant.Access{}, 0, 0, api.ErrArg)
}

// Of several errors, the one that comes first in the document's order counts.
func TestTheOrderOfErrors(t *testing.T) {
	for _, c := range []struct {
		a    grant.Access
		want api.Errno
	}{
		// The first has all four faults, and each one behind it one less.
		{grant.Access{Who: api.Core, Stage: 3, At: 0x20002001, Size: 4, Write: true}, api.ErrArg},
		{grant.Access{Who: api.Core, Stage: 0, At: 0x20002001, Size: 4, Write: true}, api.ErrAlign},
		{grant.Access{Who: api.Core, Stage: 0, At: 0x20002000, Size: 4, Write: true}, api.ErrMap},
		{grant.Access{Who: api.Core, Stage: 0, At: 0x20001000, Size: 4, Write: true}, api.ErrDenied},
		{grant.Access{Who: api.Core, Stage: 1, At: 0x20001000, Size: 4, Write: true}, api.OK},

		{grant.Access{Who: api.Core, Stage: 1, At: 0x20000001, Size: 3}, api.ErrArg},
		{grant.Access{Who: 4, Stage: 1, At: 0x00000000, Size: 4}, api.ErrArg},
		{grant.Access{Who: api.Core, Stage: 1, At: 0x20000001, Size: 2, Write: true, Fetch: true}, api.ErrArg},
		{grant.Access{Who: api.Core, Stage: 1, At: 0x20000002, Size: 4, Write: true}, api.ErrAlign},
		{grant.Access{Who: api.Core, Stage: 1, At: 0x00000001, Size: 2}, api.ErrAlign},
		{grant.Access{Who: api.Core, Stage: 1, At: 0x00000002, Size: 2}, api.ErrMap},
		{grant.Access{Who: api.Core, Stage: 1, At: 0x20000002, Size: 2, Write: true}, api.ErrDenied},
		{grant.Access{Who: api.Core, Stage: 1, At: 0x20000003, Size: 1, Write: true}, api.ErrDenied},
	} {
		if _, _, e := grant.Check(c.a); e != c.want {
			t.Errorf("%+v: error %d, not %d", c.a, e, c.want)
		}
	}
}

func TestAny(t *testing.T) {
	load := grant.Access{Who: api.Core, Stage: 1, At: 0x20001000, Size: 4}                 // Data
	fetch := grant.Access{Who: api.Core, Stage: 1, At: 0x20000000, Size: 4, Fetch: true}   // Code
	denied := grant.Access{Who: api.Core, Stage: 1, At: 0x10000000, Size: 4, Write: true}  // Store
	crooked := grant.Access{Who: api.Core, Stage: 1, At: 0x40000001, Size: 4, Write: true} // Port
	nowhere := grant.Access{Who: api.Core, Stage: 1, At: 0x00000000, Size: 4}
	for _, c := range []struct {
		l    []grant.Access
		want []int // the regions of which it is true
	}{
		{nil, nil},
		{[]grant.Access{load}, []int{2}},
		{[]grant.Access{fetch}, []int{1}},
		{[]grant.Access{denied}, nil},
		{[]grant.Access{crooked}, nil},
		{[]grant.Access{nowhere}, nil},
		{[]grant.Access{{}}, nil},
		{[]grant.Access{denied, crooked, nowhere, {}}, nil},
		{[]grant.Access{load, fetch}, []int{1, 2}},
		{[]grant.Access{fetch, load, load}, []int{1, 2}},
		{[]grant.Access{denied, load}, []int{2}},
		{[]grant.Access{load, denied}, []int{2}},
		{[]grant.Access{{}, nowhere, crooked, denied, fetch}, []int{1}},
	} {
		want := map[int]bool{}
		for _, region := range c.want {
			want[region] = true
		}
		for _, region := range append([]int{0, 1, 2, 3, 4, 5}, strangers...) {
			if got := grant.Any(region, c.l...); got != want[region] {
				t.Errorf("region %d of %+v: %t", region, c.l, got)
			}
		}
	}
}

// Any is true of one access where Check is OK.
func TestAnyOfEachAccess(t *testing.T) {
	for who := range 4 {
		for stage := range 3 {
			for _, at := range edges() {
				for kind := range 3 {
					a := grant.Access{Who: who, Stage: stage, At: at, Size: 2, Write: kind == 1, Fetch: kind == 2}
					in, _, e := check(a)
					for region := range 6 {
						want := e == api.OK && region == in
						if got := grant.Any(region, a); got != want {
							t.Fatalf("region %d of %+v: %t", region, a, got)
						}
					}
				}
			}
		}
	}
}

// Any does not change the accesses that it is given.
func TestAnyLeavesItsArguments(t *testing.T) {
	l := []grant.Access{{Who: 7, At: 3}, {Who: api.ROM, At: 0x60000000, Size: 1}, {Size: -1}}
	kept := append([]grant.Access(nil), l...)
	grant.Any(5, l[:1]...)
	grant.Any(5, l...)
	for i := range l {
		if l[i] != kept[i] {
			t.Errorf("%+v has become %+v", kept[i], l[i])
		}
	}
}
