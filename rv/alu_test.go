package rv_test

import (
	"crypto/sha256"
	"encoding/binary"
	"encoding/hex"
	"math/big"
	"math/rand"
	"testing"

	"curtilage/rv"
)

// edges are operands around the bounds.
var edges = []uint32{0, 1, 2, 3, 5, 7, 31, 32, 33, 63, 64, 0xff, 0x100, 0x7fff, 0x8000, 0xffff, 0x10000, 0x12345678, 0x55555555,
	0x7ffffffe, 0x7fffffff, 0x80000000, 0x80000001, 0xaaaaaaaa, 0xdeadbeef, 0xffff8000, 0xfffffff0, 0xfffffffe, 0xffffffff}

// natural and whole are the numbers that 32 bits stand for, without and with a
// sign.
func natural(a uint32) *big.Int { return new(big.Int).SetUint64(uint64(a)) }
func whole(a uint32) *big.Int   { return big.NewInt(int64(int32(a))) }

// cut returns the 32 bits of a number from a bit on, in two's complement.
func cut(x *big.Int, from uint) uint32 {
	x = new(big.Int).Rsh(x, from)
	x.Mod(x, new(big.Int).Lsh(big.NewInt(1), 32))
	return uint32(x.Uint64())
}

// one returns 1 for what is true.
func one(is bool) uint32 {
	if is {
		return 1
	}
	return 0
}

// computed is the specification's result of an instruction, by its name, with
// numbers of any size.
func computed(name string, a, b uint32) (uint32, bool) {
	x, y, s, u := natural(a), natural(b), whole(a), whole(b)
	by := uint(b % 32)
	switch name {
	case "addi", "add":
		return cut(new(big.Int).Add(x, y), 0), true
	case "sub":
		return cut(new(big.Int).Sub(x, y), 0), true
	case "slti", "slt":
		return one(s.Cmp(u) < 0), true
	case "sltiu", "sltu":
		return one(x.Cmp(y) < 0), true
	case "xori", "xor":
		return cut(new(big.Int).Xor(x, y), 0), true
	case "ori", "or":
		return cut(new(big.Int).Or(x, y), 0), true
	case "andi", "and":
		return cut(new(big.Int).And(x, y), 0), true
	case "slli", "sll":
		return cut(new(big.Int).Lsh(x, by), 0), true
	case "srli", "srl":
		return cut(x, by), true
	case "srai", "sra":
		return cut(s, by), true
	}
	return multiplied(name, a, b)
}

// multiplied is the same for the instructions of M.
func multiplied(name string, a, b uint32) (uint32, bool) {
	x, y, s, u := natural(a), natural(b), whole(a), whole(b)
	all := map[string]func() *big.Int{
		"mul":    func() *big.Int { return new(big.Int).Mul(x, y) },
		"mulh":   func() *big.Int { return new(big.Int).Rsh(new(big.Int).Mul(s, u), 32) },
		"mulhsu": func() *big.Int { return new(big.Int).Rsh(new(big.Int).Mul(s, y), 32) },
		"mulhu":  func() *big.Int { return new(big.Int).Rsh(new(big.Int).Mul(x, y), 32) },
		"div":    func() *big.Int { return ratio(s, u) },
		"divu":   func() *big.Int { return ratio(x, y) },
		"rem":    func() *big.Int { return rest(s, u) },
		"remu":   func() *big.Int { return rest(x, y) },
	}
	if f := all[name]; f != nil {
		return cut(f(), 0), true
	}
	return 0, false
}

// ratio is a by b, rounded towards zero, and -1 for b 0.
func ratio(a, b *big.Int) *big.Int {
	if b.Sign() == 0 {
		return big.NewInt(-1)
	}
	return new(big.Int).Quo(a, b)
}

// rest is what a by b leaves, with the sign of a, and a for b 0.
func rest(a, b *big.Int) *big.Int {
	if b.Sign() == 0 {
		return a
	}
	return new(big.Int).Rem(a, b)
}

// taken is the specification's answer for a branch, by its name.
func taken(name string, a, b uint32) bool {
	x, y, s, u := natural(a), natural(b), whole(a), whole(b)
	return map[string]bool{
		"beq": x.Cmp(y) == 0, "bne": x.Cmp(y) != 0,
		"blt": s.Cmp(u) < 0, "bge": s.Cmp(u) >= 0,
		"bltu": x.Cmp(y) < 0, "bgeu": x.Cmp(y) >= 0,
	}[name]
}

// computes holds what an instruction makes of two operands.
func computes(t *testing.T, op byte, a, b uint32) {
	t.Helper()
	p, _ := patternOf(op)
	want, can := computed(p.name, a, b)
	if got, ok := rv.Alu(op, a, b); got != want || ok != can {
		t.Fatalf("%d (%s) of %08x and %08x: %08x, %t, not %08x, %t", op, p.name, a, b, got, ok, want, can)
	}
	if got := rv.Takes(op, a, b); got != taken(p.name, a, b) {
		t.Fatalf("%d (%s) of %08x and %08x: %t", op, p.name, a, b, got)
	}
}

func TestArithmetic(t *testing.T) {
	for op := range 256 {
		for _, a := range edges {
			for _, b := range edges {
				computes(t, byte(op), a, b)
			}
		}
	}
}

func TestRandomArithmetic(t *testing.T) {
	draw := rand.New(rand.NewSource(5))
	for range 200000 {
		a, b := draw.Uint32()>>draw.Intn(32), draw.Uint32()>>draw.Intn(32)
		if draw.Intn(2) == 0 {
			a = -a
		}
		if draw.Intn(2) == 0 {
			b = -b
		}
		computes(t, byte(draw.Intn(58)), a, b)
	}
}

// Which instructions compute and which branch, by their places in the list.
func TestWhichCompute(t *testing.T) {
	for op := range 256 {
		first := byte(op) >= rv.Addi && byte(op) <= rv.And
		second := byte(op) >= rv.Mul && byte(op) <= rv.Remu
		if _, ok := rv.Alu(byte(op), 7, 7); ok != (first || second) {
			t.Errorf("%d computes: %t", op, ok)
		}
		// One of these is true for each branch.
		ever := rv.Takes(byte(op), 1, 1) || rv.Takes(byte(op), 1, 2) || rv.Takes(byte(op), 2, 1)
		if ever != (byte(op) >= rv.Beq && byte(op) <= rv.Bgeu) {
			t.Errorf("%d branches: %t", op, ever)
		}
	}
}

// The specification's table of divisions by zero, and that which overflows.
func TestDivisions(t *testing.T) {
	const least, none = 0x80000000, 0xffffffff
	for _, x := range []struct {
		op         byte
		a, b, want uint32
	}{
		{rv.Divu, 7, 0, none}, {rv.Remu, 7, 0, 7}, {rv.Div, 7, 0, none}, {rv.Rem, 7, 0, 7},
		{rv.Divu, 0, 0, none}, {rv.Remu, 0, 0, 0}, {rv.Div, 0, 0, none}, {rv.Rem, 0, 0, 0},
		{rv.Div, least, 0, none}, {rv.Rem, least, 0, least}, {rv.Div, none, 0, none}, {rv.Rem, none, 0, none},
		{rv.Div, least, none, least}, {rv.Rem, least, none, 0},
		{rv.Divu, least, none, 0}, {rv.Remu, least, none, least},
		{rv.Div, 7, 0xfffffffe, 0xfffffffd}, {rv.Rem, 7, 0xfffffffe, 1},
		{rv.Div, 0xfffffff9, 2, 0xfffffffd}, {rv.Rem, 0xfffffff9, 2, none},
	} {
		if got, ok := rv.Alu(x.op, x.a, x.b); got != x.want || !ok {
			t.Errorf("%s of %08x and %08x: %08x, %t", rv.Name(x.op), x.a, x.b, got, ok)
		}
	}
}

// numbersOf returns the instructions that have the names.
func numbersOf(names ...string) []byte {
	var l []byte
	for _, name := range names {
		for op := range byte(57) {
			if rv.Name(op) == name {
				l = append(l, op)
			}
		}
	}
	return l
}

// The hash of all results is that of another program's, QEMU 7.2: it ran each
// instruction with all operands, and wrote the results down.
func TestKnownResults(t *testing.T) {
	var p []byte
	note := func(op byte, a, b uint32) {
		got, ok := rv.Alu(op, a, b)
		if !ok {
			got = one(rv.Takes(op, a, b))
		}
		p = binary.LittleEndian.AppendUint32(p, got)
	}
	for _, op := range numbersOf("add", "sub", "sll", "slt", "sltu", "xor", "srl", "sra", "or", "and",
		"mul", "mulh", "mulhsu", "mulhu", "div", "divu", "rem", "remu", "beq", "bne", "blt", "bge", "bltu", "bgeu") {
		for _, a := range edges {
			for _, b := range edges {
				note(op, a, b)
			}
		}
	}
	immediates := []int32{0, 1, 2, 31, 32, 255, 1365, 2046, 2047, -1, -2, -31, -32, -1366, -2047, -2048}
	for _, op := range numbersOf("addi", "slti", "sltiu", "xori", "ori", "andi") {
		for _, a := range edges {
			for _, b := range immediates {
				note(op, a, uint32(b))
			}
		}
	}
	for _, op := range numbersOf("slli", "srli", "srai") {
		for _, a := range edges {
			for b := range uint32(32) {
				note(op, a, b)
			}
		}
	}
	sum := sha256.Sum256(p)
	if got := hex.EncodeToString(sum[:]); len(p) != 103008 || got != "52ce6cef601bf776522f788c5f261085b8cb88650b9d1c09f7e7a4d29fbcdc5a" {
		t.Errorf("%d bytes, hash %s", len(p), got)
	}
}
