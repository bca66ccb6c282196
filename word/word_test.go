package word_test

import (
	"math"
	"math/big"
	"math/rand"
	"strings"
	"testing"

	"seedcorn/api"
	"seedcorn/word"
)

// edges are the words at which an operation may go wrong first.
var edges = []uint32{
	0, 1, 2, 3, 7, 9, 10, 31, 32, 33, 63, 64, 255, 256, 257, 258, 65535, 65536, 65537,
	1<<31 - 1, 1 << 31, 1<<31 + 1, math.MaxUint32 - 1, math.MaxUint32,
}

// samples are the edges, and words from all over, the same at each run.
func samples(n int) []uint32 {
	r := rand.New(rand.NewSource(1))
	l := append([]uint32(nil), edges...)
	for range n {
		l = append(l, r.Uint32()>>r.Intn(32))
	}
	return l
}

// operations are all there are, in the order of their numbers from 4 on.
var operations = []int{
	api.OpAdd, api.OpSub, api.OpMul, api.OpDiv, api.OpMod, api.OpAnd,
	api.OpOr, api.OpXor, api.OpShl, api.OpShr, api.OpLt, api.OpEq,
}

// reckon makes the same of a and b by numbers of any size, as the chapter says it.
func reckon(op int, a, b uint32) (uint32, api.Errno) {
	x, y, z := big.NewInt(int64(a)), big.NewInt(int64(b)), new(big.Int)
	if y.Sign() == 0 && (op == api.OpDiv || op == api.OpMod) {
		return 0, api.ErrZero
	}
	switch op {
	case api.OpAdd:
		z.Add(x, y)
	case api.OpSub:
		z.Sub(x, y)
	case api.OpMul:
		z.Mul(x, y)
	case api.OpDiv:
		z.Div(x, y)
	case api.OpMod:
		z.Mod(x, y)
	case api.OpAnd, api.OpOr, api.OpXor:
		return bitwise(op, a, b), api.OK
	case api.OpShl, api.OpShr:
		return shifted(op, a, b), api.OK
	case api.OpLt:
		return one(x.Cmp(y) < 0), api.OK
	case api.OpEq:
		return one(x.Cmp(y) == 0), api.OK
	}
	z.Mod(z, big.NewInt(1<<32)) // Mod of math/big is never below 0
	return uint32(z.Uint64()), api.OK
}

func one(yes bool) uint32 {
	if yes {
		return 1
	}
	return 0
}

func bit(a uint32, i int) uint32 { return a >> i & 1 }

func bitwise(op int, a, b uint32) (n uint32) {
	for i := 31; i >= 0; i-- {
		set := bit(a, i) + bit(b, i)
		switch op {
		case api.OpAnd:
			n = 2*n + one(set == 2)
		case api.OpOr:
			n = 2*n + one(set >= 1)
		case api.OpXor:
			n = 2*n + one(set == 1)
		}
	}
	return n
}

func shifted(op int, a, b uint32) (n uint32) {
	for i := 31; i >= 0; i-- {
		from := int64(i) + int64(b)
		if op == api.OpShl {
			from = int64(i) - int64(b)
		}
		n *= 2
		if from >= 0 && from < 32 {
			n += bit(a, int(from))
		}
	}
	return n
}

// P1.1: each operation by its number, of ordinary words and of the ends.
func TestApplyTells(t *testing.T) {
	for _, q := range []struct {
		op         int
		a, b, want uint32
	}{
		{4, 2, 3, 5},
		{4, math.MaxUint32, 1, 0},
		{4, math.MaxUint32, math.MaxUint32, math.MaxUint32 - 1},
		{5, 7, 3, 4},
		{5, 0, 1, math.MaxUint32},
		{5, 0, math.MaxUint32, 1},
		{5, 5, 0, 5},
		{6, 6, 7, 42},
		{6, 65536, 65536, 0},
		{6, math.MaxUint32, math.MaxUint32, 1},
		{7, 17, 5, 3},
		{7, 4, 5, 0},
		{7, math.MaxUint32, 2, 1<<31 - 1},
		{8, 17, 5, 2},
		{8, 4, 5, 4},
		{8, math.MaxUint32, 1 << 31, 1<<31 - 1},
		{9, 12, 10, 8},
		{10, 12, 10, 14},
		{11, 12, 10, 6},
		{12, 1, 0, 1},
		{12, 1, 31, 1 << 31},
		{12, 1, 32, 0},
		{12, 3, 31, 1 << 31},
		{12, math.MaxUint32, 33, 0},
		{12, 1, math.MaxUint32, 0},
		{13, 8, 3, 1},
		{13, 1 << 31, 31, 1},
		{13, math.MaxUint32, 32, 0},
		{13, math.MaxUint32, 1 << 31, 0},
		{14, 1, 2, 1},
		{14, 2, 1, 0},
		{14, 2, 2, 0},
		{14, 1, math.MaxUint32, 1}, // words are never below 0
		{14, math.MaxUint32, 0, 0},
		{15, 0, 0, 1},
		{15, math.MaxUint32, math.MaxUint32, 1},
		{15, 0, 1 << 31, 0},
	} {
		if n, e := word.Apply(q.op, q.a, q.b); n != q.want || e != api.OK {
			t.Errorf("Apply(%d, %d, %d): %d, %d; want %d", q.op, q.a, q.b, n, e, q.want)
		}
	}
}

// P1.1: the same as numbers of any size tell, of any two words.
func TestApplyReckoned(t *testing.T) {
	l := samples(60)
	for _, op := range operations {
		for _, a := range l {
			for _, b := range l {
				want, wantErr := reckon(op, a, b)
				if n, e := word.Apply(op, a, b); n != want || e != wantErr {
					t.Fatalf("Apply(%d, %d, %d): %d, %d; want %d, %d", op, a, b, n, e, want, wantErr)
				}
			}
		}
	}
}

// P1.1: ErrArg comes ahead of ErrZero, and both leave 0.
func TestApplyErrors(t *testing.T) {
	for _, op := range []int{math.MinInt, -1, 0, 1, 2, 3, 16, 17, 4 + 1<<8, 4 + 1<<16, math.MinInt + 4, math.MaxInt} {
		for _, b := range []uint32{0, 1, math.MaxUint32} {
			if n, e := word.Apply(op, 7, b); n != 0 || e != api.ErrArg {
				t.Errorf("Apply(%d, 7, %d): %d, %d; want 0, ErrArg", op, b, n, e)
			}
		}
	}
	for i, op := range operations {
		if op != 4+i {
			t.Errorf("the operation %d has the number %d", i, op)
		}
		want := api.OK
		if op == api.OpDiv || op == api.OpMod {
			want = api.ErrZero
		}
		for _, a := range edges {
			n, e := word.Apply(op, a, 0)
			if e != want || e != api.OK && n != 0 {
				t.Errorf("Apply(%d, %d, 0): %d, %d; want the error %d", op, a, n, e, want)
			}
		}
	}
}

// P1.1: each bit goes n places on, round and round, either way.
func TestTurn(t *testing.T) {
	for _, q := range []struct {
		a    uint32
		n    int
		want uint32
	}{
		{1<<31 + 1, 1, 3},
		{3, -1, 1<<31 + 1},
		{1, 31, 1 << 31},
		{1, -1, 1 << 31},
		{0x12345678, 8, 0x34567812},
		{0x12345678, -8, 0x78123456},
		{5, 32, 5},
		{5, -32, 5},
		{1, math.MaxInt, 1 << 31}, // one less than a multiple of 32
		{1, math.MinInt, 1},       // a multiple of 32
	} {
		if n := word.Turn(q.a, q.n); n != q.want {
			t.Errorf("Turn(%d, %d): %d; want %d", q.a, q.n, n, q.want)
		}
	}
	for _, a := range samples(20) {
		for n := -100; n <= 100; n++ {
			got := word.Turn(a, n)
			for i := range 32 {
				to := (i + n + 320) % 32
				if bit(a, i) != bit(got, to) {
					t.Fatalf("Turn(%d, %d): %d: the bit %d isn't at %d", a, n, got, i, to)
				}
			}
		}
	}
}

// P1.2: four bytes a word, the lowest first.
func TestBytes(t *testing.T) {
	for _, q := range []struct {
		l    []uint32
		want string
	}{
		{nil, ""},
		{[]uint32{}, ""},
		{[]uint32{258}, "\x02\x01\x00\x00"},
		{[]uint32{0}, "\x00\x00\x00\x00"},
		{[]uint32{0x04030201, math.MaxUint32, 1 << 31}, "\x01\x02\x03\x04\xff\xff\xff\xff\x00\x00\x00\x80"},
	} {
		if s := word.Bytes(q.l); s != q.want {
			t.Errorf("Bytes(%d): %q; want %q", q.l, s, q.want)
		}
		l, e := word.Words(q.want)
		if !same(l, q.l) || e != api.OK {
			t.Errorf("Words(%q): %d, %d; want %d", q.want, l, e, q.l)
		}
	}
}

// P1.2: what hasn't four bytes a word is none.
func TestWordsErrors(t *testing.T) {
	long := strings.Repeat("\xff\x80\x00a", 300)
	for n := range len(long) + 1 {
		l, e := word.Words(long[:n])
		if n%4 != 0 && (e != api.ErrForm || len(l) != 0) {
			t.Errorf("of %d bytes: %d, %d; want none, ErrForm", n, l, e)
		}
		if n%4 == 0 && (e != api.OK || len(l) != n/4) {
			t.Errorf("of %d bytes: %d words, %d; want %d", n, len(l), e, n/4)
		}
	}
}

// P1.2: what is handed in stays as it is, behind its end too.
func TestBytesLeavesItsList(t *testing.T) {
	room := []uint32{1, 2, 3, 4}
	word.Bytes(room[:2])
	if !same(room, []uint32{1, 2, 3, 4}) {
		t.Errorf("the list became %d", room)
	}
}

// P1.3: decimal digits, no 0 ahead.
func TestText(t *testing.T) {
	for _, q := range []struct {
		n    uint32
		want string
	}{
		{0, "0"}, {1, "1"}, {9, "9"}, {10, "10"}, {100, "100"}, {1000000000, "1000000000"},
		{1<<31 - 1, "2147483647"}, {1 << 31, "2147483648"}, {math.MaxUint32, "4294967295"},
	} {
		if s := word.Text(q.n); s != q.want {
			t.Errorf("Text(%d): %q; want %q", q.n, s, q.want)
		}
		if n, e := word.Parse(q.want); n != q.n || e != api.OK {
			t.Errorf("Parse(%q): %d, %d; want %d", q.want, n, e, q.n)
		}
	}
}

// P1.3: ErrSyntax comes ahead of ErrRange, however long the text, and both leave 0.
func TestParseErrors(t *testing.T) {
	nines := strings.Repeat("9", 100000)
	for _, q := range []struct {
		s    string
		want api.Errno
	}{
		{"", api.ErrSyntax},
		{"00", api.ErrSyntax},
		{"007", api.ErrSyntax},
		{"01", api.ErrSyntax},
		{"04294967296", api.ErrSyntax},
		{"-1", api.ErrSyntax},
		{"-0", api.ErrSyntax},
		{"+1", api.ErrSyntax},
		{" 1", api.ErrSyntax},
		{"1 ", api.ErrSyntax},
		{"1\n", api.ErrSyntax},
		{"1\x00", api.ErrSyntax},
		{"1_0", api.ErrSyntax},
		{"0x1", api.ErrSyntax},
		{"1.0", api.ErrSyntax},
		{"1e3", api.ErrSyntax},
		{"ten", api.ErrSyntax},
		{"/", api.ErrSyntax},
		{":", api.ErrSyntax},
		{"1/", api.ErrSyntax},
		{"1:", api.ErrSyntax},
		{"\xff", api.ErrSyntax},
		{"\u0661", api.ErrSyntax}, // a digit elsewhere, but no byte from 48 to 57
		{nines + "x", api.ErrSyntax},
		{"4294967296", api.ErrRange},
		{"4294967300", api.ErrRange},
		{"9999999999", api.ErrRange},
		{"10000000000", api.ErrRange},
		{"18446744073709551615", api.ErrRange},
		{"18446744073709551616", api.ErrRange}, // 2^64, which is 0 where numbers wrap round
		{"18446744073709551617", api.ErrRange},
		{"1" + strings.Repeat("0", 100), api.ErrRange},
		{nines, api.ErrRange},
	} {
		if n, e := word.Parse(q.s); n != 0 || e != q.want {
			t.Errorf("Parse(%.30q): %d, %d; want 0, %d", q.s, n, e, q.want)
		}
	}
}

// P1.3: of all texts of one byte just the ten digits are one.
func TestParseOneByte(t *testing.T) {
	for c := range 256 {
		want, wantErr := uint32(0), api.ErrSyntax
		if c >= 48 && c <= 57 {
			want, wantErr = uint32(c-48), api.OK
		}
		if n, e := word.Parse(string([]byte{byte(c)})); n != want || e != wantErr {
			t.Errorf("of the byte %d: %d, %d; want %d, %d", c, n, e, want, wantErr)
		}
	}
}

// P1.4: a is b times a by b, and what is left, which is less than b.
func TestDivisionMakesWhole(t *testing.T) {
	l := samples(60)
	for _, a := range l {
		for _, b := range l {
			if b == 0 {
				continue
			}
			q, _ := word.Apply(api.OpDiv, a, b)
			r, _ := word.Apply(api.OpMod, a, b)
			p, _ := word.Apply(api.OpMul, b, q)
			if s, _ := word.Apply(api.OpAdd, p, r); s != a || r >= b {
				t.Fatalf("%d by %d: %d, left %d", a, b, q, r)
			}
		}
	}
}

// P1.4: a turned there and back is a.
func TestTurnThereAndBack(t *testing.T) {
	for _, a := range samples(60) {
		for _, n := range []int{0, 1, 7, 31, 32, 33, -1, -45, math.MaxInt - 40, 45 - math.MaxInt, math.MaxInt, -math.MaxInt} {
			if b := word.Turn(word.Turn(a, n), -n); b != a {
				t.Errorf("%d, by %d and back: %d", a, n, b)
			}
		}
	}
}

// P1.4: bytes are read as the words that they were made of, and texts as theirs.
func TestReadAsWritten(t *testing.T) {
	all := samples(2000)
	for _, n := range []int{0, 1, 2, 3, len(all)} {
		if l, e := word.Words(word.Bytes(all[:n])); !same(l, all[:n]) || e != api.OK {
			t.Errorf("of %d words: %d, %d", n, l, e)
		}
	}
	for _, a := range all {
		if n, e := word.Parse(word.Text(a)); n != a || e != api.OK {
			t.Errorf("%d is read as %d, %d", a, n, e)
		}
	}
}

func same(a, b []uint32) bool {
	if len(a) != len(b) {
		return false
	}
	for i := range a {
		if a[i] != b[i] {
			return false
		}
	}
	return true
}
