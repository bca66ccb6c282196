// Package word is layer 1: words of 32 bits: what the operations make of two; words as bytes; decimal texts. See shared/doc/01-word.md.
package word

import (
	"math/bits"
	"strconv"

	"seedcorn/api"
)

const (
	size     = 4 // bytes of a word
	greatest = 1<<32 - 1
)

// Apply tells what the operation op makes of a and b: ErrArg, if there is no
// such operation, ErrZero of a division by 0.
func Apply(op int, a, b uint32) (uint32, api.Errno) {
	switch op {
	case api.OpSub:
		b = -b // to take b away is to add what b lacks of 2^32
		fallthrough
	case api.OpAdd:
		return a + b, api.OK
	case api.OpMul:
		return a * b, api.OK
	case api.OpDiv, api.OpMod:
		return divide(op, a, b)
	case api.OpAnd:
		return a & b, api.OK
	case api.OpOr:
		return a | b, api.OK
	case api.OpXor:
		return a ^ b, api.OK
	case api.OpShl:
		return a << b, api.OK // Go's shifts, too, leave 0 from 32 places on
	case api.OpShr:
		return a >> b, api.OK
	case api.OpEq:
		a, b = a^b, 1 // alike are those whose differing bits are less than 1
		fallthrough
	case api.OpLt:
		return truth(a < b), api.OK
	}
	return 0, api.ErrArg
}

// divide keeps the test for 0 in one place for both operations that need it.
func divide(op int, a, b uint32) (uint32, api.Errno) {
	if b == 0 {
		return 0, api.ErrZero
	}
	if op == api.OpDiv {
		return a / b, api.OK
	}
	return a % b, api.OK
}

func truth(holds bool) uint32 {
	if holds {
		return 1
	}
	return 0
}

// Turn tells a, its bits turned n places towards the high end, or, of n below
// 0, towards the low end.
func Turn(a uint32, n int) uint32 {
	return bits.RotateLeft32(a, n)
}

// Bytes tells the bytes of all words, one behind the other: four each, the
// lowest first.
func Bytes(l []uint32) string {
	out := make([]byte, 0, size*len(l))
	for _, w := range l {
		out = append(out, byte(w), byte(w>>8), byte(w>>16), byte(w>>24))
	}
	return string(out)
}

// Words tells the words whose bytes s is: ErrForm, if the last one would have
// too few.
func Words(s string) ([]uint32, api.Errno) {
	if len(s)%size != 0 {
		return nil, api.ErrForm
	}
	out := make([]uint32, 0, len(s)/size)
	for i := 0; i < len(s); i += size {
		low := uint32(s[i]) | uint32(s[i+1])<<8
		high := uint32(s[i+2]) | uint32(s[i+3])<<8
		out = append(out, low|high<<16)
	}
	return out, api.OK
}

// Text tells the decimal text of n.
func Text(n uint32) string {
	return strconv.FormatUint(uint64(n), 10)
}

// Parse tells the word whose text s is: ErrSyntax, if s is no number's text,
// ErrRange, if that number is no word.
func Parse(s string) (uint32, api.Errno) {
	if !numeral(s) {
		return 0, api.ErrSyntax
	}
	var n uint64
	for i := range len(s) {
		n = 10*n + uint64(s[i]-'0')
		if n > greatest { // at once, as n itself would run over on a long text
			return 0, api.ErrRange
		}
	}
	return uint32(n), api.OK
}

// numeral looks at the whole text ahead of any reckoning: a sign that is no
// digit is told even where the digits ahead of it are too many.
func numeral(s string) bool {
	if s == "" || len(s) > 1 && s[0] == '0' {
		return false
	}
	for i := range len(s) {
		if s[i] < '0' || s[i] > '9' {
			return false
		}
	}
	return true
}
