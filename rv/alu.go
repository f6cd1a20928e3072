package rv

import "math"

// amountBits are the bits of an operand which say how far it is shifted.
const amountBits = 31

// Alu returns the result of an instruction that computes.
func Alu(op byte, a, b uint32) (uint32, bool) {
	switch op {
	case Addi, Add:
		return a + b, true
	case Sub:
		return a - b, true
	case Slti, Slt:
		return bit(int32(a) < int32(b)), true
	case Sltiu, Sltu:
		return bit(a < b), true
	case Xori, Xor:
		return a ^ b, true
	case Ori, Or:
		return a | b, true
	case Andi, And:
		return a & b, true
	case Slli, Sll:
		return a << (b & amountBits), true
	case Srli, Srl:
		return a >> (b & amountBits), true
	case Srai, Sra:
		return uint32(int32(a) >> (b & amountBits)), true
	case Mul, Mulh, Mulhsu, Mulhu:
		return product(op, a, b), true
	case Div, Divu:
		return quotient(op, a, b), true
	case Rem, Remu:
		return remainder(op, a, b), true
	}
	return 0, false
}

// bit returns 1 for what is true.
func bit(is bool) uint32 {
	if is {
		return 1
	}
	return 0
}

// product returns the half of the product that an instruction asks for.
func product(op byte, a, b uint32) uint32 {
	switch op {
	case Mulh:
		return uint32(signed(a) * signed(b) >> 32)
	case Mulhsu:
		return uint32(signed(a) * int64(b) >> 32)
	case Mulhu:
		return uint32(uint64(a) * uint64(b) >> 32)
	}
	return a * b
}

// signed returns the number whose two's complement a is.
func signed(a uint32) int64 { return int64(int32(a)) }

// quotient returns a by b, and all bits where there is none. That of the least
// number by -1 is too great by one, and wraps round to the least number.
func quotient(op byte, a, b uint32) uint32 {
	switch {
	case b == 0:
		return math.MaxUint32
	case op == Div:
		return uint32(signed(a) / signed(b))
	}
	return a / b
}

// remainder returns what a by b leaves: all of a where there is no quotient.
func remainder(op byte, a, b uint32) uint32 {
	switch {
	case b == 0:
		return a
	case op == Rem:
		return uint32(signed(a) % signed(b))
	}
	return a % b
}

// Takes tells whether a branch is taken.
func Takes(op byte, a, b uint32) bool {
	switch op {
	case Beq:
		return a == b
	case Bne:
		return a != b
	case Blt:
		return int32(a) < int32(b)
	case Bge:
		return int32(a) >= int32(b)
	case Bltu:
		return a < b
	case Bgeu:
		return a >= b
	}
	return false
}
