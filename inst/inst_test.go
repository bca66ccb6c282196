package inst_test

import (
	"math"
	"math/rand"
	"strconv"
	"strings"
	"testing"

	"seedcorn/api"
	"seedcorn/inst"
)

// farOff is a number whose low bits are those of 0.
const farOff = math.MaxInt/2 + 1

// lines are the chapter's table, by number: a name, and each part: r a
// register, n a number up to 65535, . a field that isn't named.
var lines = []string{
	"", "li r.n", "lui r.n", "mov rr.",
	"add rrr", "sub rrr", "mul rrr", "div rrr", "mod rrr", "and rrr",
	"or rrr", "xor rrr", "shl rrr", "shr rrr", "lt rrr", "eq rrr",
	"ld rrn", "st rrn", "jmp ..n", "jz r.n", "jnz r.n", "call r.n",
	"ret r..", "get r..", "put r..", "chk r.n", "halt ...", "ldc rrn",
}

// ways are the values to be tried for each field of an instruction.
type ways struct{ ops, as, bs, cs []int }

// each goes through all of them.
func (w ways) each(look func(i api.Ins)) {
	for _, op := range w.ops {
		for _, a := range w.as {
			for _, b := range w.bs {
				for _, c := range w.cs {
					look(api.Ins{Op: op, A: a, B: b, C: c})
				}
			}
		}
	}
}

// span is the numbers from low to high, both among them.
func span(low, high int) []int {
	var l []int
	for n := low; n <= high; n++ {
		l = append(l, n)
	}
	return l
}

// odd are numbers that no field may have, but whose low bits may look as if.
var odd = []int{
	-1, -2, -15, -16, -65535, -65536, 65536, 65537, 1 << 20, 1 << 24, 1<<24 + 1, 1 << 28,
	math.MinInt, math.MinInt + 1, math.MinInt + 4, math.MaxInt, math.MaxInt - 1, farOff, farOff + 1, farOff + 4, -farOff,
}

// mostC are those of C at which something may go wrong first.
var mostC = append(span(0, 18), 31, 32, 63, 64, 127, 128, 255, 256, 257, 1000, 4095, 4096, 9999, 10000, 32767, 32768, 65520, 65534, 65535)

// all goes through instructions of any fields: of the ranges of the fields and
// some beyond.
func all(look func(i api.Ins)) {
	ways{append(span(0, 40), odd...), span(0, 17), span(0, 17), append([]int{65536}, mostC...)}.each(look)
	ways{span(0, 28), append(span(-2, 17), odd...), append([]int{0, 1, 15, 16}, odd...), append([]int{0, 1, 15, 16, 65535}, odd...)}.each(look)
}

// parts are how the line of op goes on behind the name, and the name itself.
func parts(op int) (kinds, name string) {
	if op < 1 || op > 27 {
		return "", ""
	}
	name, kinds, _ = strings.Cut(lines[op], " ")
	return kinds, name
}

// mayBe tells of i, and the text of an i that may be, what the table says.
func mayBe(i api.Ins) (string, bool) {
	kinds, text := parts(i.Op)
	if kinds == "" {
		return "", false
	}
	between := " "
	for k, value := range []int{i.A, i.B, i.C} {
		switch {
		case kinds[k] == '.' && value != 0,
			kinds[k] == 'r' && (value < 0 || value > 15),
			kinds[k] == 'n' && (value < 0 || value > 65535):
			return "", false
		case kinds[k] == 'r':
			text += between + "r" + strconv.Itoa(value)
			between = ", "
		case kinds[k] == 'n':
			text += between + strconv.Itoa(value)
			between = ", "
		}
	}
	return text, true
}

// wordOf is reckoned by sums and products.
func wordOf(i api.Ins) uint32 {
	return uint32(int64(i.Op)*16777216 + int64(i.A)*1048576 + int64(i.B)*65536 + int64(i.C))
}

// P7.1, P7.2: the chapter's examples.
func TestExamples(t *testing.T) {
	for _, q := range []struct {
		i    api.Ins
		word uint32
		text string
	}{
		{api.Ins{Op: 4, A: 1, B: 2, C: 3}, 68288515, "add r1, r2, r3"},
		{api.Ins{Op: 1, A: 4, C: 65535}, 1*16777216 + 4*1048576 + 65535, "li r4, 65535"},
		{api.Ins{Op: 26}, 436207616, "halt"},
	} {
		if !inst.Right(q.i) {
			t.Errorf("%v may not be", q.i)
		}
		if w, e := inst.Encode(q.i); w != q.word || e != api.OK {
			t.Errorf("Encode(%v): %d, %d; want %d", q.i, w, e, q.word)
		}
		if i, e := inst.Decode(q.word); i != q.i || e != api.OK {
			t.Errorf("Decode(%d): %v, %d; want %v", q.word, i, e, q.i)
		}
		if s := inst.Text(q.i); s != q.text {
			t.Errorf("Text(%v): %q; want %q", q.i, s, q.text)
		}
	}
	if i, e := inst.Decode(0); i != (api.Ins{}) || e != api.ErrForm {
		t.Errorf("Decode(0): %v, %d; want a zero one, ErrForm", i, e)
	}
}

// The numbers of package api are those of the table.
func TestNumbers(t *testing.T) {
	for k, op := range []int{
		api.InsLi, api.InsLui, api.InsMov, api.OpAdd, api.OpSub, api.OpMul, api.OpDiv, api.OpMod, api.OpAnd,
		api.OpOr, api.OpXor, api.OpShl, api.OpShr, api.OpLt, api.OpEq, api.InsLd, api.InsSt, api.InsJmp,
		api.InsJz, api.InsJnz, api.InsCall, api.InsRet, api.InsGet, api.InsPut, api.InsChk, api.InsHalt, api.InsLdc,
	} {
		if op != k+1 {
			t.Errorf("the operation %d has the number %d", k+1, op)
		}
	}
}

// P7.1: what may be, and its word: of any fields; ErrArg and 0 of all else.
func TestEncode(t *testing.T) {
	right := 0
	all(func(i api.Ins) {
		_, want := mayBe(i)
		if got := inst.Right(i); got != want {
			t.Fatalf("Right(%v): %t", i, got)
		}
		w, e := inst.Encode(i)
		if want && (w != wordOf(i) || e != api.OK) {
			t.Fatalf("Encode(%v): %d, %d; want %d", i, w, e, wordOf(i))
		}
		if !want && (w != 0 || e != api.ErrArg) {
			t.Fatalf("Encode(%v): %d, %d; want 0, ErrArg", i, w, e)
		}
		if want {
			right++
		}
	})
	if right < 10000 {
		t.Errorf("but %d were tried that may be", right)
	}
}

// P7.1: each field at its end, and one beyond; a field that isn't named at 1.
func TestEnds(t *testing.T) {
	for op := 1; op <= 27; op++ {
		kinds, _ := parts(op)
		for k := range 3 {
			most := map[byte]int{'.': 0, 'r': 15, 'n': 65535}[kinds[k]]
			for value, want := range map[int]bool{-1: false, 0: true, most: true, most + 1: false} {
				var f [3]int
				f[k] = value
				i := api.Ins{Op: op, A: f[0], B: f[1], C: f[2]}
				_, e := inst.Encode(i)
				if inst.Right(i) != want || (e == api.OK) != want || (inst.Text(i) != "") != want {
					t.Errorf("%v: Right is %t, Encode's error %d, Text %q", i, inst.Right(i), e, inst.Text(i))
				}
			}
		}
	}
}

// looksLike tells the instruction of w's four parts, though it may not be.
func looksLike(w uint32) api.Ins {
	n := int64(w)
	return api.Ins{Op: int(n / 16777216), A: int(n / 1048576 % 16), B: int(n / 65536 % 16), C: int(n % 65536)}
}

// decodes holds Decode(w) against the table.
func decodes(t *testing.T, w uint32) {
	t.Helper()
	want, wantErr := looksLike(w), api.OK
	if _, ok := mayBe(want); !ok {
		want, wantErr = api.Ins{}, api.ErrForm
	}
	if i, e := inst.Decode(w); i != want || e != wantErr {
		t.Fatalf("Decode(%08x): %v, %d; want %v, %d", w, i, e, want, wantErr)
	}
}

// P7.1: of any word: the instruction, or a zero one and ErrForm.
func TestDecode(t *testing.T) {
	for op := range uint32(256) {
		for fields := range uint32(256) {
			for _, c := range mostC {
				decodes(t, op<<24|fields<<16|uint32(c))
			}
		}
	}
	for op := range uint32(29) { // each C, of few registers
		for c := range uint32(65536) {
			decodes(t, op<<24|c)
			decodes(t, op<<24|0xf<<20|c)
			decodes(t, op<<24|0xf<<16|c)
		}
	}
	r := rand.New(rand.NewSource(1))
	for range 200000 {
		w := r.Uint32()
		decodes(t, w)
		decodes(t, w%(28<<24)) // where most operations are some
	}
	for bit := range 32 {
		decodes(t, 1<<bit)
		decodes(t, math.MaxUint32-1<<bit)
	}
	decodes(t, math.MaxUint32)
}

// P7.2: each operation's name, and back; nothing of any other number.
func TestNames(t *testing.T) {
	seen := map[string]bool{"": true}
	for op := 1; op <= 27; op++ {
		_, want := parts(op)
		if s := inst.Name(op); s != want || seen[s] {
			t.Errorf("Name(%d): %q; want %q", op, s, want)
		}
		if n := inst.Op(want); n != op {
			t.Errorf("Op(%q): %d; want %d", want, n, op)
		}
		seen[want] = true
	}
	for _, op := range append(append(span(-300, 0), span(28, 600)...), odd...) {
		if s := inst.Name(op); s != "" {
			t.Errorf("Name(%d): %q; want nothing", op, s)
		}
	}
	if n := inst.Op(""); n != 0 {
		t.Errorf("of no name: %d; want 0", n)
	}
}

// P7.2: a name is read just as it stands, whole, in small letters.
func TestOtherNames(t *testing.T) {
	is := map[string]bool{}
	for op := 1; op <= 27; op++ {
		_, name := parts(op)
		is[name] = true
	}
	none := func(s string) {
		t.Helper()
		if n := inst.Op(s); !is[s] && n != 0 {
			t.Errorf("Op(%q): %d; want 0", s, n)
		}
	}
	for name := range is {
		for n := range len(name) {
			none(name[:n])
			none(name[n:])
			none(name[:n] + strings.ToUpper(name[n:n+1]) + name[n+1:])
			for c := range 256 {
				none(name[:n] + string([]byte{byte(c)}) + name[n+1:])
				none(name[:n] + string([]byte{byte(c)}) + name[n:])
			}
		}
		for c := range 256 {
			none(name + string([]byte{byte(c)}))
		}
		none(strings.ToUpper(name))
		none(name + name)
		none(strings.Repeat(name, 10000))
	}
	for _, s := range []string{"x", " ", "\x00", "nop", "div by", ".word", ".data", "r1", "4", "add r1, r2, r3", "l\u0131", "\xff"} {
		none(s)
	}
}

// P7.2: the text of each that may be; nothing of all else.
func TestText(t *testing.T) {
	for _, q := range []struct {
		i    api.Ins
		want string
	}{
		{api.Ins{Op: api.InsLi, A: 0, C: 0}, "li r0, 0"},
		{api.Ins{Op: api.InsLui, A: 10, C: 10}, "lui r10, 10"},
		{api.Ins{Op: api.InsMov, A: 15, B: 0}, "mov r15, r0"},
		{api.Ins{Op: api.OpEq, A: 15, B: 14, C: 13}, "eq r15, r14, r13"},
		{api.Ins{Op: api.InsLd, A: 1, B: 2, C: 15}, "ld r1, r2, 15"}, // no register, though it could be one
		{api.Ins{Op: api.InsSt, A: 9, B: 10, C: 65535}, "st r9, r10, 65535"},
		{api.Ins{Op: api.InsLdc, A: 0, B: 0, C: 0}, "ldc r0, r0, 0"},
		{api.Ins{Op: api.InsJmp}, "jmp 0"},
		{api.Ins{Op: api.InsJmp, C: 7}, "jmp 7"},
		{api.Ins{Op: api.InsCall, A: 14, C: 1000}, "call r14, 1000"},
		{api.Ins{Op: api.InsRet}, "ret r0"},
		{api.Ins{Op: api.InsPut, A: 5}, "put r5"},
		{api.Ins{Op: api.InsHalt}, "halt"},
		{api.Ins{Op: api.InsHalt, A: 1}, ""},
		{api.Ins{Op: api.InsJmp, A: 1}, ""},
		{api.Ins{Op: 28}, ""},
		{api.Ins{}, ""},
	} {
		if s := inst.Text(q.i); s != q.want {
			t.Errorf("Text(%v): %q; want %q", q.i, s, q.want)
		}
	}
	all(func(i api.Ins) {
		want, _ := mayBe(i)
		if s := inst.Text(i); s != want {
			t.Fatalf("Text(%v): %q; want %q", i, s, want)
		}
	})
}

// P7.3: an instruction is read of its word as it was; two that are unlike have
// unlike words, and unlike texts.
func TestReadAsWritten(t *testing.T) {
	words, texts := map[uint32]api.Ins{}, map[string]api.Ins{}
	all(func(i api.Ins) {
		if !inst.Right(i) {
			return
		}
		w, e := inst.Encode(i)
		if back, backErr := inst.Decode(w); back != i || e != api.OK || backErr != api.OK {
			t.Fatalf("%v, as %08x, is read as %v, %d", i, w, back, backErr)
		}
		s := inst.Text(i)
		if was, ok := words[w]; ok && was != i {
			t.Fatalf("%v and %v have the word %08x", was, i, w)
		}
		if was, ok := texts[s]; ok && was != i {
			t.Fatalf("%v and %v have the text %q", was, i, s)
		}
		words[w], texts[s] = i, i
	})
	if len(words) < 10000 || len(words) != len(texts) {
		t.Errorf("%d words, %d texts", len(words), len(texts))
	}
}

// P7.3: and what is read of a word has that word.
func TestWrittenAsRead(t *testing.T) {
	r := rand.New(rand.NewSource(2))
	read := 0
	for range 500000 {
		w := r.Uint32() % (28 << 24)
		if w>>24&1 == 0 { // of a half of them B is 0, which most ask for
			w &^= 0xf << 16
		}
		i, e := inst.Decode(w)
		if e != api.OK {
			continue
		}
		read++
		if back, backErr := inst.Encode(i); back != w || backErr != api.OK || !inst.Right(i) {
			t.Fatalf("%08x, read as %v, has the word %08x, %d", w, i, back, backErr)
		}
	}
	if read < 10000 {
		t.Errorf("but %d were read", read)
	}
}
