package machine_test

import (
	"math"
	"math/rand"
	"slices"
	"strings"
	"testing"

	"seedcorn/api"
	"seedcorn/inst"
	"seedcorn/machine"
)

// farOff is a number whose low bits are those of 0.
const farOff = math.MaxInt/2 + 1

// two32 is what sums of words are told modulo.
const two32 = int64(4294967296)

// edges are words at which a step may go wrong first.
var edges = []uint32{0, 1, 2, 3, 4, 31, 32, 33, 255, 256, 257, 65535, 65536, 0x12345678, 1<<31 - 1, 1 << 31, math.MaxUint32 - 65535, math.MaxUint32 - 2, math.MaxUint32 - 1, math.MaxUint32}

// odd are numbers that neither places nor ends are as a rule.
var odd = []int{-1, -2, -256, -65536, math.MinInt32, math.MinInt, math.MinInt + 1, math.MaxInt32, farOff, farOff + 1, -farOff, math.MaxInt - 1, math.MaxInt}

// lines are the chapter's instructions, by number: a name, and each part: r a
// register, n a number up to 65535, . a field that isn't named.
var lines = []string{
	"none", "li r.n", "lui r.n", "mov rr.",
	"add rrr", "sub rrr", "mul rrr", "div rrr", "mod rrr", "and rrr",
	"or rrr", "xor rrr", "shl rrr", "shr rrr", "lt rrr", "eq rrr",
	"ld rrn", "st rrn", "jmp ..n", "jz r.n", "jnz r.n", "call r.n",
	"ret r..", "get r..", "put r..", "chk r.n", "halt ...", "ldc rrn",
}

// line tells the name and the parts of w, by the chapter's table: none, if it
// is no instruction.
func line(w uint32) (name string, a, b, c int) {
	n := int64(w)
	op, part := n/16777216, []int64{n / 1048576 % 16, n / 65536 % 16, n % 65536}
	if op < 1 || op > 27 {
		return "none", 0, 0, 0
	}
	name, kinds, _ := strings.Cut(lines[op], " ")
	for k, value := range part {
		if kinds[k] == '.' && value != 0 || kinds[k] == 'r' && value > 15 {
			return "none", 0, 0, 0
		}
	}
	return name, int(part[0]), int(part[1]), int(part[2])
}

// change is what a step does beside counting itself; a part that it leaves is
// -1, and so is pc where it ends.
type change struct {
	end            int
	pc             int64
	reg            int
	regValue       int64
	mem            int64
	memValue       int64
	out, readBytes int64
}

// nothing is the change of a step that ends so.
func nothing(end int) change {
	return change{end: end, pc: -1, reg: -1, regValue: -1, mem: -1, memValue: -1, out: -1, readBytes: 0}
}

// operation reckons what an operation makes of two words, and if it can.
func operation(name string, a, b int64) (int64, bool) {
	yes := map[bool]int64{true: 1}
	switch name {
	case "add":
		return (a + b) % two32, true
	case "sub":
		return (a + two32 - b) % two32, true
	case "mul":
		return int64(uint64(a) * uint64(b) % uint64(two32)), true
	case "div", "mod":
		if b == 0 {
			return 0, false
		}
		return map[string]int64{"div": a / b, "mod": a - a/b*b}[name], true
	case "and", "or", "xor":
		return bitwise(name, a, b), true
	case "shl":
		for ; b > 0 && a > 0; b-- {
			a = a * 2 % two32
		}
		return a, true
	case "shr":
		for ; b > 0 && a > 0; b-- {
			a /= 2
		}
		return a, true
	case "lt":
		return yes[a < b], true
	}
	return yes[a == b], true
}

// bitwise goes through the bits one by one.
func bitwise(name string, a, b int64) int64 {
	sum := int64(0)
	for bit := int64(1); bit < two32; bit *= 2 {
		ones := a/bit%2 + b/bit%2
		if name == "and" && ones == 2 || name == "or" && ones > 0 || name == "xor" && ones == 1 {
			sum += bit
		}
	}
	return sum
}

// told is the change that the chapter's table tells of a step at a word of m.
func told(m api.Image, in string, s api.State) change {
	name, a, b, c := line(m.Code[s.PC])
	reg := func(r int) int64 { return int64(s.Reg[r]) }
	ch := nothing(api.Going)
	ch.pc = int64(s.PC) + 1
	sets := func(value int64) change {
		ch.reg, ch.regValue = a, value
		return ch
	}
	switch name {
	case "none":
		return nothing(api.EndBad)
	case "halt":
		return nothing(api.EndDone)
	case "li":
		return sets(int64(c))
	case "lui":
		return sets(reg(a)%65536 + int64(c)*65536)
	case "mov":
		return sets(reg(b))
	case "ld", "st", "ldc":
		return toldOfMemory(name, m, s, ch)
	case "jmp", "jz", "jnz", "call", "ret":
		return toldOfJumps(name, s, ch, a, int64(c))
	case "get", "put":
		return toldOfBytes(name, in, s, ch, a)
	case "chk":
		if reg(a) >= int64(c) {
			return nothing(api.EndIndex)
		}
		return ch
	}
	value, can := operation(name, reg(b), reg(c))
	if !can {
		return nothing(api.EndZero)
	}
	return sets(value)
}

// toldOfMemory goes on for ld, st and ldc.
func toldOfMemory(name string, m api.Image, s api.State, ch change) change {
	_, a, b, c := line(m.Code[s.PC])
	l := map[string][]uint32{"ld": s.Mem, "st": s.Mem, "ldc": m.Code}[name]
	number := (int64(s.Reg[b]) + int64(c)) % two32
	if number >= int64(len(l)) {
		return nothing(api.EndMem)
	}
	if name == "st" {
		ch.mem, ch.memValue = number, int64(s.Reg[a])
		return ch
	}
	ch.reg, ch.regValue = a, int64(l[number])
	return ch
}

// toldOfJumps goes on for those that go elsewhere, if they do.
func toldOfJumps(name string, s api.State, ch change, a int, c int64) change {
	value := int64(s.Reg[a])
	if name == "call" {
		ch.reg, ch.regValue = a, int64(s.PC)+1
	}
	if name == "ret" {
		c = value
	}
	if name == "jz" && value != 0 || name == "jnz" && value == 0 {
		return ch
	}
	ch.pc = c
	return ch
}

// toldOfBytes goes on for get and put.
func toldOfBytes(name, in string, s api.State, ch change, a int) change {
	switch {
	case name == "put" && len(s.Out) >= 65536:
		return nothing(api.EndOut)
	case name == "put":
		ch.out = int64(s.Reg[a]) % 256
		return ch
	case s.Read < 0 || s.Read >= len(in):
		ch.reg, ch.regValue = a, 256
		return ch
	}
	ch.reg, ch.regValue, ch.readBytes = a, int64(in[s.Read]), 1
	return ch
}

// after is the state behind a change of s, made anew.
func after(s api.State, ch change) api.State {
	s.Mem = slices.Clone(s.Mem)
	s.Steps, s.End = s.Steps+1, ch.end
	s.Read += int(ch.readBytes)
	if ch.pc >= 0 {
		s.PC = int(ch.pc)
	}
	if ch.reg >= 0 {
		s.Reg[ch.reg] = uint32(ch.regValue)
	}
	if ch.mem >= 0 {
		s.Mem[ch.mem] = uint32(ch.memValue)
	}
	if ch.out >= 0 {
		s.Out += string([]byte{byte(ch.out)})
	}
	return s
}

// alike holds two states against each other, field by field.
func alike(a, b api.State) bool {
	if len(a.Mem) != len(b.Mem) {
		return false
	}
	for i := range a.Mem {
		if a.Mem[i] != b.Mem[i] {
			return false
		}
	}
	a.Mem, b.Mem = nil, nil
	return a.PC == b.PC && a.Reg == b.Reg && a.Read == b.Read && a.Out == b.Out && a.Steps == b.Steps && a.End == b.End
}

// brief is a state to be told of.
func brief(s api.State) api.State {
	s.Mem = s.Mem[:min(len(s.Mem), 8)]
	s.Out = s.Out[:min(len(s.Out), 8)]
	return s
}

// steps holds a step of m from s against the chapter's table, and sees that
// nothing that was handed over is changed by it.
func steps(t *testing.T, m api.Image, in string, s api.State) api.State {
	t.Helper()
	code, mem := slices.Clone(m.Code), slices.Clone(s.Mem)
	got := machine.Step(m, in, s)
	if !slices.Equal(code, m.Code) || !slices.Equal(mem, s.Mem) {
		t.Fatalf("a step at %08x changed what it was handed", m.Code[s.PC])
	}
	if want := after(s, told(m, in, s)); !alike(got, want) {
		name, a, b, c := line(m.Code[s.PC])
		t.Fatalf("%s %d %d %d from %v: %v; want %v", name, a, b, c, brief(s), brief(got), brief(want))
	}
	return got
}

// word is an instruction's word, by its name and its three fields, whether it
// may be or not.
func word(name string, a, b, c int) uint32 {
	for op := 1; op <= 27; op++ {
		if strings.HasPrefix(lines[op], name+" ") {
			return uint32(op*16777216 + a*1048576 + b*65536 + c)
		}
	}
	return 0
}

// registers are words taken at random, of edges for the most part.
func registers(r *rand.Rand) (l [16]uint32) {
	for i := range l {
		switch r.Intn(3) {
		case 0:
			l[i] = edges[r.Intn(len(edges))]
		case 1:
			l[i] = uint32(r.Intn(6))
		default:
			l[i] = r.Uint32()
		}
	}
	return l
}

// words are n at random.
func words(r *rand.Rand, n int) []uint32 {
	l := make([]uint32, n)
	for i := range l {
		l[i] = r.Uint32()
	}
	return l
}

// state is one at random, in the midst of code of n words.
func state(r *rand.Rand, n int) api.State {
	s := api.State{PC: r.Intn(n), Reg: registers(r), Mem: words(r, r.Intn(6)), Read: r.Intn(5) - 1, Steps: r.Intn(1000)}
	s.Out = string([]byte{'<', byte(r.Intn(256)), '>'})[:r.Intn(4)]
	return s
}

// numbersC are those of C at which something may go wrong first.
var numbersC = []int{0, 1, 2, 3, 4, 5, 7, 15, 16, 17, 255, 256, 32767, 32768, 65534, 65535}

// some is a word at random that may be, for the most part.
func some(r *rand.Rand) uint32 {
	op := 1 + r.Intn(27)
	_, kinds, _ := strings.Cut(lines[op], " ")
	f := [3]int{r.Intn(16), r.Intn(16), numbersC[r.Intn(len(numbersC))]}
	for k := range f {
		if kinds[k] == '.' && r.Intn(50) > 0 {
			f[k] = 0
		}
	}
	if kinds[2] == 'r' && r.Intn(50) > 0 {
		f[2] %= 16
	}
	return uint32(op*16777216 + f[0]*1048576 + f[1]*65536 + f[2])
}

// P9.1: the chapter's examples.
func TestExamples(t *testing.T) {
	none := api.Image{}
	s := machine.Step(none, "", machine.Start(none))
	if !alike(s, api.State{End: api.EndPC}) {
		t.Errorf("of no code: %v; want EndPC, no step", s)
	}
	halt := api.Image{Code: []uint32{436207616}}
	s = machine.Step(halt, "", machine.Start(halt))
	if !alike(s, api.State{End: api.EndDone, Steps: 1}) {
		t.Errorf("of halt: %v; want EndDone, one step, PC 0", s)
	}
}

// P9.1: memory of Data words, all 0, and all else 0; none of a Data that may
// not be, whatever the code.
func TestStart(t *testing.T) {
	for _, code := range [][]uint32{nil, {5}, make([]uint32, 16384), make([]uint32, 16385), make([]uint32, 70000)} {
		for _, data := range []int{0, 1, 2, 255, 256, 257, 16384, 16385, 32767, 32768} {
			want := api.State{Mem: make([]uint32, data)}
			if s := machine.Start(api.Image{Code: code, Data: data}); !alike(s, want) {
				t.Errorf("%d words of code, Data %d: %d words of memory, %v", len(code), data, len(s.Mem), brief(s))
			}
		}
		for _, data := range append([]int{32769, 32770, 65535, 65536, 65537, 1 << 20, -32768}, odd...) {
			if s := machine.Start(api.Image{Code: code, Data: data}); !alike(s, api.State{}) {
				t.Errorf("%d words of code, Data %d: %d words of memory, %v; want none", len(code), data, len(s.Mem), brief(s))
			}
		}
	}
}

// others are states each of which is unlike s by one field.
func others(s api.State) map[string]api.State {
	l := map[string]api.State{}
	add := func(name string, do func(o *api.State)) {
		o := s
		o.Mem = slices.Clone(s.Mem)
		do(&o)
		l[name] = o
	}
	for _, by := range []int{1, -1, 1 << 16, farOff, math.MinInt} {
		n := " by " + string(rune('a'+len(l)))
		add("PC"+n, func(o *api.State) { o.PC += by })
		add("Read"+n, func(o *api.State) { o.Read += by })
		add("Steps"+n, func(o *api.State) { o.Steps += by })
		add("End"+n, func(o *api.State) { o.End += by })
	}
	for r := range s.Reg {
		add("Reg "+string(rune('a'+r)), func(o *api.State) { o.Reg[r]++ })
		add("Reg, high, "+string(rune('a'+r)), func(o *api.State) { o.Reg[r] ^= 1 << 31 })
	}
	for i := range s.Mem {
		add("Mem "+string(rune('a'+i)), func(o *api.State) { o.Mem[i]-- })
	}
	if len(s.Mem) > 0 {
		add("Mem, fewer", func(o *api.State) { o.Mem = o.Mem[:len(o.Mem)-1] })
	}
	if len(s.Out) > 0 {
		add("Out, shorter", func(o *api.State) { o.Out = o.Out[1:] })
		add("Out, of another case", func(o *api.State) { o.Out = o.Out[:len(o.Out)-1] + string([]byte{o.Out[len(o.Out)-1] ^ 32}) })
	}
	add("Mem, more", func(o *api.State) { o.Mem = append(o.Mem, 0) })
	add("Out, longer", func(o *api.State) { o.Out += "\x00" })
	return l
}

// P9.1: two states are the same if all fields are; a list that holds nothing
// may be nil or empty, and room to spare plays no part.
func TestSame(t *testing.T) {
	full := api.State{PC: 3, Mem: []uint32{1, 2, 0}, Read: 4, Out: "Ab\xffz", Steps: 5, End: 6}
	full.Reg = [16]uint32{1, 2, 3, 4, 5, 6, 7, 8, 9, 10, 11, 12, 13, 14, 15, math.MaxUint32}
	for _, s := range []api.State{{}, full, {Mem: make([]uint32, 32768)[:9]}, {PC: -1, Read: math.MinInt, Steps: -7, End: math.MaxInt}} {
		copied := s
		copied.Mem = append(make([]uint32, 0, 40), s.Mem...)
		copied.Out = strings.Clone(s.Out)
		if !machine.Same(s, s) || !machine.Same(s, copied) || !machine.Same(copied, s) {
			t.Errorf("%v isn't the same as itself", brief(s))
		}
		for name, o := range others(s) {
			if machine.Same(s, o) || machine.Same(o, s) {
				t.Errorf("%v is the same as one with another %s", brief(s), name)
			}
		}
	}
	if !machine.Same(api.State{Mem: []uint32{}}, api.State{}) {
		t.Error("no memory: nil and empty aren't the same")
	}
	swapped := full
	swapped.PC, swapped.Read = full.Read, full.PC
	if machine.Same(full, swapped) {
		t.Error("two fields may be swapped")
	}
}

// P9.1: each instruction, by the chapter's table, of few registers and numbers
// all of them, from states whose words are at their edges.
func TestEach(t *testing.T) {
	r := rand.New(rand.NewSource(1))
	for op := 0; op < 30; op++ {
		for _, a := range []int{0, 1, 14, 15} {
			for _, b := range []int{0, 1, 7, 15} {
				for _, c := range numbersC {
					for range 8 {
						w := uint32(op<<24 | a<<20 | b<<16 | c)
						m := api.Image{Code: []uint32{some(r), w, some(r)}, Data: r.Intn(9) - 2}
						s := state(r, 3)
						s.PC = 1
						steps(t, m, "a\xff\x00"[:r.Intn(4)], s)
					}
				}
			}
		}
	}
}

// P9.1: the operations, of any two edges, also into a register that is one of
// both.
func TestOperations(t *testing.T) {
	for op := 4; op <= 15; op++ {
		name, _, _ := strings.Cut(lines[op], " ")
		for _, x := range edges {
			for _, y := range edges {
				for _, to := range []int{0, 2, 5} {
					s := api.State{Mem: []uint32{1}}
					s.Reg[2], s.Reg[5] = x, y
					steps(t, api.Image{Code: []uint32{word(name, to, 2, 5)}}, "", s)
					steps(t, api.Image{Code: []uint32{word(name, to, 5, 5)}}, "", s)
				}
			}
		}
	}
}

// P9.1: any words, from any states.
func TestAny(t *testing.T) {
	r := rand.New(rand.NewSource(2))
	ends := map[int]int{}
	for range 300000 {
		m := api.Image{Code: []uint32{some(r), some(r), r.Uint32() % (28 << 24), r.Uint32()}[:1+r.Intn(4)]}
		s := state(r, len(m.Code))
		ends[steps(t, m, "input"[:r.Intn(6)], s).End]++
	}
	for _, end := range []int{api.Going, api.EndDone, api.EndZero, api.EndIndex, api.EndBad, api.EndMem} {
		if ends[end] < 100 {
			t.Errorf("but %d ended by %d", ends[end], end)
		}
	}
}

// P9.1: no word that is no instruction's is done, whatever its fields.
func TestBad(t *testing.T) {
	r := rand.New(rand.NewSource(3))
	bad := []uint32{0, 1, 28 << 24, 255 << 24, math.MaxUint32, word("halt", 0, 0, 1), word("halt", 1, 0, 0), word("add", 1, 2, 16), word("mov", 1, 2, 1), word("li", 1, 1, 5), word("jmp", 1, 0, 0), word("put", 1, 0, 1), word("ret", 0, 1, 0)}
	for range 2000 {
		bad = append(bad, 28<<24+r.Uint32()%(228<<24))
	}
	for _, w := range bad {
		s := state(r, 1)
		want := s
		want.End, want.Steps = api.EndBad, s.Steps+1
		if got := machine.Step(api.Image{Code: []uint32{w}}, "in", s); !alike(got, want) {
			t.Fatalf("%08x: %v; want EndBad, one step, all else as it was", w, brief(got))
		}
	}
}

// P9.1: a PC where no code is: EndPC, and no step.
func TestPC(t *testing.T) {
	r := rand.New(rand.NewSource(4))
	for _, n := range []int{0, 1, 2, 16384, 20000} {
		m := api.Image{Code: make([]uint32, n), Data: 4}
		for i := range m.Code {
			m.Code[i] = word("li", 1, 0, 7)
		}
		for _, pc := range append([]int{n, n + 1, n + 2, n + 65536, -n}, odd...) {
			if pc >= 0 && pc < n || pc == 0 && n > 0 {
				continue
			}
			s := state(r, 1)
			s.PC = pc
			want := s
			want.End = api.EndPC
			if got := machine.Step(m, "in", s); !alike(got, want) {
				t.Errorf("%d words, PC %d: %v; want EndPC, nothing else", n, pc, brief(got))
			}
		}
		if n > 0 {
			steps(t, m, "in", api.State{PC: n - 1})
			steps(t, m, "in", api.State{})
		}
	}
}

// P9.2: what is at its end stays, however it ended, whatever its PC.
func TestStays(t *testing.T) {
	r := rand.New(rand.NewSource(5))
	for _, end := range append([]int{1, 2, 3, 4, 5, 6, 7, 8, 9, 100}, odd...) {
		for op := 0; op < 30; op++ {
			for _, pc := range append([]int{0, 1, 2}, odd...) {
				m := api.Image{Code: []uint32{uint32(op) << 24, some(r)}}
				s := state(r, 1)
				s.End, s.PC = end, pc
				if got := machine.Step(m, "in", s); !alike(got, s) {
					t.Fatalf("End %d, PC %d, operation %d: %v; want what it was, %v", end, pc, op, brief(got), brief(s))
				}
			}
		}
	}
}

// P9.1: Read at any number: a byte where there is one, else 256.
func TestGet(t *testing.T) {
	every := make([]byte, 256)
	for i := range every {
		every[i] = byte(255 - i)
	}
	m := api.Image{Code: []uint32{word("get", 7, 0, 0)}}
	for read := -3; read < 260; read++ {
		s := steps(t, m, string(every), api.State{Read: read})
		if there := read >= 0 && read < 256; there && (s.Reg[7] != uint32(255-read) || s.Read != read+1) || !there && (s.Reg[7] != 256 || s.Read != read) {
			t.Errorf("Read %d: %d, and Read %d", read, s.Reg[7], s.Read)
		}
	}
	for _, read := range odd {
		steps(t, m, string(every), api.State{Read: read})
		steps(t, m, "", api.State{Read: read})
	}
	steps(t, m, "", api.State{})
}

// P9.1: the low byte of each register, as one byte, as long as Out has fewer
// than 65536.
func TestPut(t *testing.T) {
	for r := range 16 {
		m := api.Image{Code: []uint32{word("put", r, 0, 0)}}
		for n := range uint32(600) {
			s := api.State{Out: "\xc3"}
			s.Reg[r] = n | n<<9 | n<<24
			steps(t, m, "", s)
		}
	}
	m := api.Image{Code: []uint32{word("put", 1, 0, 0)}}
	for n, end := range map[int]int{0: api.Going, 255: api.Going, 256: api.Going, 65534: api.Going, 65535: api.Going, 65536: api.EndOut, 65537: api.EndOut, 65792: api.EndOut, 131072: api.EndOut} {
		s := api.State{Out: strings.Repeat("x", n)}
		s.Reg[1] = 'y'
		if got := steps(t, m, "", s); got.End != end || (end == api.Going) != (got.Out == s.Out+"y") {
			t.Errorf("behind %d bytes: End %d, %d bytes", n, got.End, len(got.Out))
		}
	}
}

// P9.1: words at both ends of memory and of code, and one beyond; a sum that
// goes beyond 2^32 begins again at 0.
func TestPlaces(t *testing.T) {
	r := rand.New(rand.NewSource(6))
	for _, n := range []int{0, 1, 2, 255, 256, 257, 32767, 32768, 65536, 70000} {
		code := words(r, max(n, 1))
		s := api.State{Mem: words(r, n)}
		s.Reg[3] = 77
		for _, at := range []int64{0, 1, int64(n) - 1, int64(n), int64(n) + 1, two32 - 1, two32 / 2} {
			for _, c := range []int64{0, 1, 2, 255, 65535} {
				s.Reg[4] = uint32((at - c + 2*two32) % two32)
				for _, name := range []string{"ld", "st", "ldc"} {
					code[0] = word(name, 3, 4, int(c))
					got := steps(t, api.Image{Code: code}, "", s)
					l := map[string]int{"ld": n, "st": n, "ldc": len(code)}[name]
					if there := at >= 0 && at < int64(l); there != (got.End == api.Going) {
						t.Errorf("%s of the word %d of %d: End %d", name, at, l, got.End)
					}
				}
			}
		}
	}
}

// P9.1: a jump that isn't taken goes on; call keeps the place behind it; both,
// and ret, may go anywhere.
func TestJumps(t *testing.T) {
	for _, pc := range []int{0, 1, 65535, 65536, 69999} {
		for r := range 16 {
			for _, value := range edges {
				for _, c := range numbersC {
					for _, name := range []string{"jz", "jnz", "call", "chk"} {
						far(t, pc, r, value, word(name, r, 0, c))
					}
				}
				far(t, pc, r, value, word("ret", r, 0, 0))
				far(t, pc, r, value, word("jmp", 0, 0, int(value%65536)))
			}
		}
	}
}

// farCode is code with more words than the images that may be.
var farCode = make([]uint32, 70000)

// far does the word w at pc, where the register r is value.
func far(t *testing.T, pc, r int, value, w uint32) {
	t.Helper()
	m := api.Image{Code: farCode}
	farCode[pc] = w
	s := api.State{PC: pc, Mem: []uint32{4}}
	s.Reg[r] = value
	if got, want := machine.Step(m, "", s), after(s, told(m, "", s)); !alike(got, want) {
		t.Fatalf("%08x at %d, r%d %d: %v; want %v", w, pc, r, value, got, want)
	}
	farCode[pc] = 0
}

// P9.2: one register changes at most, one word of memory, one byte comes to
// Out, one is read; whatever ends leaves all but End and Steps.
func TestWhatChanges(t *testing.T) {
	r := rand.New(rand.NewSource(7))
	for range 200000 {
		m := api.Image{Code: []uint32{some(r), some(r)}}
		s := state(r, 2)
		got := machine.Step(m, "input"[:r.Intn(6)], s)
		registers, mem := 0, 0
		for i := range s.Reg {
			registers += map[bool]int{true: 1}[got.Reg[i] != s.Reg[i]]
		}
		if len(got.Mem) != len(s.Mem) {
			t.Fatalf("memory of %d words has %d behind a step", len(s.Mem), len(got.Mem))
		}
		for i := range s.Mem {
			mem += map[bool]int{true: 1}[got.Mem[i] != s.Mem[i]]
		}
		more, read := len(got.Out)-len(s.Out), got.Read-s.Read
		if registers > 1 || mem > 1 || more < 0 || more > 1 || !strings.HasPrefix(got.Out, s.Out) || read < 0 || read > 1 {
			t.Fatalf("%08x: %d registers, %d words, %d bytes put out, %d read", m.Code[s.PC], registers, mem, more, read)
		}
		if got.End != api.Going && (registers+mem+more+read > 0 || got.PC != s.PC) {
			t.Fatalf("%08x ended by %d, and more is changed: %v, %v", m.Code[s.PC], got.End, brief(s), brief(got))
		}
		if got.Steps != s.Steps+1 {
			t.Fatalf("%08x: %d steps, then %d", m.Code[s.PC], s.Steps, got.Steps)
		}
	}
}

// seen is what a step from s to got did, where only told what it did to the
// parts that the instruction's line names.
func seen(s, got api.State, ch change) change {
	now := ch
	now.end = got.End
	if got.End == api.Going {
		now.pc = int64(got.PC)
	}
	if ch.reg >= 0 {
		now.regValue = int64(got.Reg[ch.reg])
	}
	if ch.mem >= 0 {
		now.memValue = int64(got.Mem[ch.mem])
	}
	if ch.out >= 0 && len(got.Out) > len(s.Out) {
		now.out = int64(got.Out[len(got.Out)-1])
	}
	now.readBytes = int64(got.Read - s.Read)
	return now
}

// unnamed changes whatever the line of the word at PC doesn't name: the other
// registers and words, the code round it, the input, and all counts.
func unnamed(r *rand.Rand, m *api.Image, in *string, s *api.State) {
	name, a, b, c := line(m.Code[s.PC])
	number := (int64(s.Reg[b]) + int64(c)) % two32
	keep := map[int]bool{a: true, b: true}
	if inst.Op(name) >= 4 && inst.Op(name) <= 15 {
		keep[c] = true
	}
	for i, w := range registers(r) {
		if !keep[i] {
			s.Reg[i] = w
		}
	}
	s.Mem = slices.Clone(s.Mem)
	for i := range s.Mem {
		if int64(i) != number {
			s.Mem[i] = r.Uint32()
		}
	}
	m.Code = slices.Clone(m.Code)
	for i := range m.Code {
		if i != s.PC && (name != "ldc" || int64(i) != number) {
			m.Code[i] = some(r)
		}
	}
	if name != "ldc" {
		m.Code = append(m.Code, words(r, r.Intn(3))...)
	}
	if name != "ld" && name != "st" {
		s.Mem = append(s.Mem, words(r, r.Intn(3))...)
	}
	if name != "get" {
		*in, s.Read = "other"[:r.Intn(6)], odd[r.Intn(len(odd))]
	}
	if name == "get" && s.Read > 0 && s.Read < len(*in) {
		*in = strings.Repeat("?", s.Read) + (*in)[s.Read:s.Read+1] + "!!"[:r.Intn(3)]
	}
	if name != "put" {
		s.Out = strings.Repeat("o", r.Intn(3)*40000)
	}
	m.Data, s.Steps = odd[r.Intn(len(odd))], r.Intn(1<<30)
}

// P9.2: what a step does hangs on the word at PC, and on what its line names,
// alone: with all else another, it does the same.
func TestHangsOn(t *testing.T) {
	r := rand.New(rand.NewSource(8))
	for range 40000 {
		m := api.Image{Code: []uint32{some(r), some(r), some(r)}, Data: 3}
		in, s := "input"[:r.Intn(6)], state(r, 3)
		want := told(m, in, s)
		if first := seen(s, machine.Step(m, in, s), want); first != want {
			t.Fatalf("%08x: %v; want %v", m.Code[s.PC], first, want)
		}
		w := m.Code[s.PC]
		unnamed(r, &m, &in, &s)
		if second := seen(s, machine.Step(m, in, s), want); second != want {
			t.Fatalf("%08x, with what it doesn't name changed: %v; want %v", w, second, want)
		}
	}
}

// P9.1: Steps up to its end, and below 0.
func TestSteps(t *testing.T) {
	m := api.Image{Code: []uint32{word("li", 1, 0, 5), word("halt", 0, 0, 0), 0}}
	for _, n := range []int{0, 1, -1, -2, math.MinInt, math.MaxInt32 - 1, farOff - 1, farOff - 2, farOff / 4} {
		for pc := range 3 {
			if got := steps(t, m, "", api.State{PC: pc, Steps: n}); got.Steps != n+1 {
				t.Errorf("%d steps, then %d", n, got.Steps)
			}
		}
	}
}

// Nothing that was handed over is changed, its spare room neither, by a store
// or by what comes behind it, so that each state of a run stays what it was.
func TestKept(t *testing.T) {
	room := []uint32{1, 2, 3, 4, 5, 6}
	m := api.Image{Code: []uint32{word("st", 1, 2, 0), word("add", 2, 2, 1), word("put", 2, 0, 0), word("jmp", 0, 0, 0)}}
	s := api.State{Mem: room[1:4]}
	s.Reg[1] = 1
	var states, copies []api.State
	for s.End == api.Going {
		states = append(states, s)
		s.Mem = slices.Clone(s.Mem)
		copies = append(copies, s)
		s = machine.Step(m, "", states[len(states)-1])
	}
	if s.End != api.EndMem || s.Steps != 13 || !slices.Equal(s.Mem, []uint32{1, 1, 1}) || s.Out != "\x01\x02\x03" {
		t.Errorf("the run: %v", s)
	}
	if !slices.Equal(room, []uint32{1, 2, 3, 4, 5, 6}) {
		t.Errorf("what was handed over is %v", room)
	}
	for i := range states {
		if !alike(states[i], copies[i]) {
			t.Errorf("the state %d of the run became %v; it was %v", i, states[i], copies[i])
		}
	}
	left := machine.Step(m, "", states[0])
	right := states[0]
	right.Reg[1] = 9
	right = machine.Step(m, "", right)
	if left.Mem[0] != 1 || right.Mem[0] != 9 {
		t.Errorf("two steps from one state write into one memory: %d, %d", left.Mem[0], right.Mem[0])
	}
}

// run makes steps of code till it ends, each held against the table.
func run(t *testing.T, data int, in string, code ...uint32) api.State {
	t.Helper()
	m := api.Image{Code: code, Data: data}
	s := machine.Start(m)
	for s.End == api.Going && s.Steps < 100000 {
		if s.PC >= len(code) {
			return machine.Step(m, in, s)
		}
		s = steps(t, m, in, s)
	}
	return s
}

// P9.1: whole runs: the input backwards, by the memory as a stack.
func TestBackwards(t *testing.T) {
	in := "what is read first \x00\xff comes last"
	s := run(t, 64, in,
		word("get", 1, 0, 0),
		word("li", 2, 0, 256),
		word("eq", 3, 1, 2),
		word("jnz", 3, 0, 7),
		word("st", 1, 4, 0),
		word("call", 9, 0, 13),
		word("jmp", 0, 0, 0),
		word("jz", 4, 0, 12),
		word("call", 9, 0, 15),
		word("ld", 1, 4, 0),
		word("put", 1, 0, 0),
		word("jmp", 0, 0, 7),
		word("halt", 0, 0, 0),
		word("li", 5, 0, 1),
		word("jmp", 0, 0, 17),
		word("li", 5, 0, 65535),
		word("lui", 5, 0, 65535), // one less than 0
		word("add", 4, 4, 5),
		word("ret", 9, 0, 0))
	want := []byte(in)
	slices.Reverse(want)
	if s.End != api.EndDone || s.Out != string(want) || s.Read != len(in) {
		t.Errorf("End %d, Read %d, Out %q; want %q", s.End, s.Read, s.Out, want)
	}
}

// P9.1: whole runs: code that puts out its own words, and runs off its end.
func TestOwnCode(t *testing.T) {
	code := []uint32{
		word("li", 7, 0, 8),
		word("li", 6, 0, 1),
		word("ldc", 1, 2, 0),
		word("put", 1, 0, 0),
		word("shr", 1, 1, 7),
		word("jnz", 1, 0, 3),
		word("add", 2, 2, 6),
		word("jmp", 0, 0, 2)}
	s := run(t, 0, "", code...)
	var want []byte
	for _, w := range code {
		for ; w > 0; w /= 256 {
			want = append(want, byte(w))
		}
	}
	if s.End != api.EndMem || s.Out != string(want) || s.PC != 2 {
		t.Errorf("End %d, PC %d, Out %q; want %q", s.End, s.PC, s.Out, want)
	}
	if s = run(t, 0, "", word("jmp", 0, 0, 1)); s.End != api.EndPC || s.PC != 1 || s.Steps != 1 {
		t.Errorf("behind the code: %v", s)
	}
}
