package exec_test

import (
	"math"
	"math/rand"
	"slices"
	"strings"
	"testing"

	"seedcorn/api"
	"seedcorn/exec"
	"seedcorn/image"
	"seedcorn/inst"
	"seedcorn/machine"
)

// least and most are the ends of the numbers that fuel and Steps are asked for.
const (
	least = math.MinInt
	most  = math.MaxInt / 2 // 2^62 - 1, where a number has 64 bits
)

// word is the word of an instruction, by its name and its fields.
func word(name string, a, b, c int) uint32 {
	w, e := inst.Encode(api.Ins{Op: inst.Op(name), A: a, B: b, C: c})
	if e != api.OK {
		panic(name + ": no instruction")
	}
	return w
}

// code is words one behind the other.
func code(l ...uint32) api.Image {
	return api.Image{Code: l}
}

// told is what the chapter tells of a run: step by step, by layer 9 alone. It
// tells the state behind, how often each word was done, and which words were
// done, or read by an ldc.
func told(m api.Image, in string, s api.State, fuel int) (api.State, []int, []bool) {
	counts, used := make([]int, len(m.Code)), make([]bool, len(m.Code))
	for made := 0; made < fuel && s.End == api.Going; made++ {
		next := machine.Step(m, in, s)
		if s.PC >= 0 && s.PC < len(m.Code) {
			counts[s.PC]++
			used[s.PC] = true
			i, _ := inst.Decode(m.Code[s.PC])
			if n := int64(s.Reg[i.B] + uint32(i.C)); i.Op == api.InsLdc && n < int64(len(m.Code)) {
				used[n] = true
			}
		}
		s = next
	}
	return s, counts, used
}

// resultOf is what the chapter tells of a run from the beginning.
func resultOf(m api.Image, in string, fuel int) api.Result {
	s, _, _ := told(m, in, machine.Start(m), fuel)
	if s.End == api.Going {
		return api.Result{End: api.EndFuel, Out: s.Out, Steps: s.Steps}
	}
	return api.Result{End: s.End, Out: s.Out, Steps: s.Steps}
}

// alike holds two states against each other, field by field.
func alike(a, b api.State) bool {
	return a.PC == b.PC && a.Reg == b.Reg && slices.Equal(a.Mem, b.Mem) && a.Read == b.Read && a.Out == b.Out && a.Steps == b.Steps && a.End == b.End
}

// brief is a state to be told of.
func brief(s api.State) api.State {
	s.Mem = s.Mem[:min(len(s.Mem), 8)]
	s.Out = s.Out[:min(len(s.Out), 8)]
	return s
}

// goes holds Go against the chapter, and sees that nothing that was handed
// over is changed by it, the room behind the memory neither.
func goes(t *testing.T, m api.Image, in string, s api.State, fuel int) api.State {
	t.Helper()
	words, room := slices.Clone(m.Code), slices.Clone(s.Mem[:cap(s.Mem)])
	want, _, _ := told(m, in, s, fuel)
	got := exec.Go(m, in, s, fuel)
	if !alike(got, want) {
		t.Fatalf("Go of %08x from %v, fuel %d: %v; want %v", m.Code, brief(s), fuel, brief(got), brief(want))
	}
	if !slices.Equal(words, m.Code) || !slices.Equal(room, s.Mem[:cap(s.Mem)]) {
		t.Fatalf("Go of %08x changed what it was handed", m.Code)
	}
	return got
}

// runs holds Run, Bytes and Counts against the chapter.
func runs(t *testing.T, m api.Image, in string, fuel int) api.Result {
	t.Helper()
	want := resultOf(m, in, fuel)
	got := exec.Run(m, in, fuel)
	if got != want {
		t.Fatalf("Run of %08x, fuel %d: %d, %d bytes, %d steps; want %d, %d bytes, %d steps", m.Code, fuel, got.End, len(got.Out), got.Steps, want.End, len(want.Out), want.Steps)
	}
	if b, e := image.Put(m); e == api.OK {
		if r, e := exec.Bytes(b, in, fuel); r != want || e != api.OK {
			t.Fatalf("Bytes of %08x, fuel %d: %d, %d steps, %v; want %d, %d steps", m.Code, fuel, r.End, r.Steps, e, want.End, want.Steps)
		}
	}
	_, counts, _ := told(m, in, machine.Start(m), fuel)
	l := exec.Counts(m, in, fuel)
	if !slices.Equal(l, counts) {
		t.Fatalf("Counts of %08x, fuel %d: %v; want %v", m.Code, fuel, l, counts)
	}
	if sum(l) != got.Steps {
		t.Fatalf("Counts of %08x, fuel %d: %v, of %d steps", m.Code, fuel, l, got.Steps)
	}
	return got
}

func sum(l []int) int {
	n := 0
	for _, each := range l {
		n += each
	}
	return n
}

// some is a word at random of code of n words: one that gets at few registers
// and words, and goes to a place in the code, or just behind it.
func some(r *rand.Rand, n int) uint32 {
	if r.Intn(200) == 0 {
		return r.Uint32()
	}
	a, b, c, place := r.Intn(4), r.Intn(4), r.Intn(4), r.Intn(n+r.Intn(2))
	switch name := inst.Name(1 + r.Intn(api.InsLdc)); name {
	case "li", "lui":
		return word(name, a, 0, c)
	case "mov":
		return word(name, a, b, 0)
	case "jmp":
		return word(name, 0, 0, place)
	case "jz", "jnz", "call":
		return word(name, a, 0, place)
	case "ret", "get", "put":
		return word(name, a, 0, 0)
	case "chk":
		return word(name, a, 0, 300+r.Intn(65236))
	case "halt":
		return word(name, 0, 0, 0)
	default:
		return word(name, a, b, c)
	}
}

// someImage is one at random, of a few words of code.
func someImage(r *rand.Rand) api.Image {
	m := api.Image{Code: make([]uint32, r.Intn(12)), Data: r.Intn(9)}
	if r.Intn(3) == 0 {
		m.Data = 400
	}
	for i := range m.Code {
		m.Code[i] = some(r, len(m.Code))
	}
	return m
}

// someState is one at random, mostly in the midst of m's code, with room
// behind its memory.
func someState(r *rand.Rand, m api.Image) api.State {
	s := machine.Start(m)
	s.Mem = append(make([]uint32, 0, len(s.Mem)+3), s.Mem...)
	for i := range s.Mem {
		s.Mem[i] = r.Uint32() >> r.Intn(32)
	}
	for i := range s.Reg {
		s.Reg[i] = r.Uint32() >> r.Intn(32)
	}
	s.PC = r.Intn(len(m.Code) + 1)
	s.Read = r.Intn(6) - 1
	s.Out = "what was put out"[:r.Intn(17)]
	s.Steps = []int{0, 1, -1, 1000, least, most, most - 3, math.MaxInt32}[r.Intn(8)]
	if r.Intn(12) == 0 {
		s.End = []int{-1, 1, 2, 5, 7, 9, least, math.MaxInt}[r.Intn(8)]
	}
	if r.Intn(12) == 0 {
		s.PC = []int{-1, least, math.MaxInt, math.MaxInt32, len(m.Code) + 1}[r.Intn(5)]
	}
	return s
}

// fuels are those that are tried of each run, some below 0 among them.
var fuels = []int{least, least + 1, -65536, -1, 0, 1, 2, 3, 4, 7, 20, 150}

// P10.1, P10.2, P10.3: the chapter's examples.
func TestExamples(t *testing.T) {
	round := code(word("jmp", 0, 0, 0))
	if r := exec.Run(round, "", 5); r != (api.Result{End: api.EndFuel, Steps: 5}) {
		t.Errorf("jmp 0, fuel 5: %v; want EndFuel, 5 steps", r)
	}
	if l := exec.Counts(round, "", 5); !slices.Equal(l, []int{5}) {
		t.Errorf("jmp 0, fuel 5: Counts %v; want 5", l)
	}
	if r := exec.Run(api.Image{}, "", 1); r != (api.Result{End: api.EndPC}) {
		t.Errorf("no code, fuel 1: %v; want EndPC, 0 steps", r)
	}
	if r := exec.Run(api.Image{}, "", 0); r != (api.Result{End: api.EndFuel}) {
		t.Errorf("no code, fuel 0: %v; want EndFuel", r)
	}
	if l := exec.Counts(api.Image{}, "", 1); len(l) != 0 {
		t.Errorf("no code: Counts %v; want none", l)
	}
}

// P10.1: the document's own example of the whole: A, on whatever input.
func TestA(t *testing.T) {
	m := code(word("li", 1, 0, 65), word("put", 1, 0, 0), word("halt", 0, 0, 0))
	for _, in := range []string{"", "x", "\x00\xff"} {
		if r := exec.Run(m, in, 3); r != (api.Result{End: api.EndDone, Out: "A", Steps: 3}) {
			t.Errorf("of %q: %v", in, r)
		}
	}
	s := exec.Go(m, "", machine.Start(m), 3)
	want := api.State{PC: 2, Out: "A", Steps: 3, End: api.EndDone}
	want.Reg[1] = 65
	if !alike(s, want) {
		t.Errorf("the state behind: %v; want %v", s, want)
	}
}

// P10.1: any code, from any state, with any fuel.
func TestGo(t *testing.T) {
	r := rand.New(rand.NewSource(1))
	ends := map[int]int{}
	for range 20000 {
		m := someImage(r)
		s := someState(r, m)
		in := "in\x00\xffput"[:r.Intn(8)]
		for _, fuel := range fuels {
			ends[goes(t, m, in, s, fuel).End]++
		}
	}
	for _, end := range []int{api.Going, api.EndDone, api.EndZero, api.EndIndex, api.EndBad, api.EndPC, api.EndMem} {
		if ends[end] < 100 {
			t.Errorf("but %d ended by %d", ends[end], end)
		}
	}
}

// P10.1: what is at its end stays, whatever the fuel; without fuel all stays,
// since no step is looked at.
func TestStays(t *testing.T) {
	r := rand.New(rand.NewSource(2))
	for range 300 {
		m := someImage(r)
		s := someState(r, m)
		for _, end := range []int{-1, 1, 2, 3, 4, 5, 6, 7, 8, 9, least, math.MaxInt} {
			s.End = end
			for _, fuel := range append(fuels, most) {
				if got := exec.Go(m, "in", s, fuel); !alike(got, s) {
					t.Fatalf("End %d, fuel %d: %v; want %v", end, fuel, brief(got), brief(s))
				}
			}
		}
		s.End = api.Going
		for _, fuel := range []int{0, -1, -2, least, least + 1} {
			if got := exec.Go(m, "in", s, fuel); !alike(got, s) {
				t.Fatalf("fuel %d: %v; want %v", fuel, brief(got), brief(s))
			}
		}
	}
}

// P10.1: the fuel is of the steps that this run makes: those that the state
// had made already play no part.
func TestFuelAnew(t *testing.T) {
	m := code(word("jmp", 0, 0, 0))
	for _, steps := range []int{least, least + 1, -1, 0, 1, 5, 1000, math.MaxInt32, most - 1, most} {
		for _, fuel := range []int{0, 1, 4, 5, 6} {
			if s := goes(t, m, "", api.State{Steps: steps}, fuel); s.Steps != steps+fuel || s.End != api.Going {
				t.Errorf("fuel %d behind %d steps: %d steps, End %d", fuel, steps, s.Steps, s.End)
			}
		}
	}
}

// P10.1, P10.2: the fuel that there may be at most is enough for runs that end.
func TestMostFuel(t *testing.T) {
	m := code(word("li", 1, 0, 7), word("li", 2, 0, 1), word("put", 1, 0, 0), word("sub", 1, 1, 2), word("jnz", 1, 0, 2))
	for _, fuel := range []int{24, 25, 1 << 30, most - 1, most} {
		if r := exec.Run(m, "", fuel); r != (api.Result{End: api.EndPC, Out: "\x07\x06\x05\x04\x03\x02\x01", Steps: 23}) {
			t.Errorf("fuel %d: %v", fuel, r)
		}
		if l := exec.Counts(m, "", fuel); !slices.Equal(l, []int{1, 1, 7, 7, 7}) {
			t.Errorf("fuel %d: Counts %v", fuel, l)
		}
	}
	if r := exec.Run(m, "", 23); r.End != api.EndFuel || r.Steps != 23 {
		t.Errorf("fuel 23, and EndPC only behind: %v", r)
	}
}

// P10.2, P10.3: any code, with any fuel.
func TestRun(t *testing.T) {
	r := rand.New(rand.NewSource(3))
	ends := map[int]int{}
	for range 20000 {
		m := someImage(r)
		in := "in\x00\xffput"[:r.Intn(8)]
		for _, fuel := range fuels {
			ends[runs(t, m, in, fuel).End]++
		}
	}
	for _, end := range []int{api.EndDone, api.EndZero, api.EndIndex, api.EndFuel, api.EndBad, api.EndPC, api.EndMem} {
		if ends[end] < 100 {
			t.Errorf("but %d ended by %d", ends[end], end)
		}
	}
}

// P10.2, P10.3: each end, at which step it comes, and where: the word that
// ends a run is done, but not where no word is.
func TestEnds(t *testing.T) {
	zero := word("div", 1, 0, 0)
	for i, q := range []struct {
		m      api.Image
		want   api.Result
		counts []int
	}{
		{code(word("halt", 0, 0, 0)), api.Result{End: api.EndDone, Steps: 1}, []int{1}},
		{code(word("jmp", 0, 0, 1), word("halt", 0, 0, 0), 0), api.Result{End: api.EndDone, Steps: 2}, []int{1, 1, 0}},
		{code(zero, 0), api.Result{End: api.EndZero, Steps: 1}, []int{1, 0}},
		{code(word("chk", 1, 0, 0)), api.Result{End: api.EndIndex, Steps: 1}, []int{1}},
		{code(0), api.Result{End: api.EndBad, Steps: 1}, []int{1}},
		{code(math.MaxUint32), api.Result{End: api.EndBad, Steps: 1}, []int{1}},
		{code(word("st", 0, 0, 0)), api.Result{End: api.EndMem, Steps: 1}, []int{1}},
		{code(word("ld", 0, 0, 0)), api.Result{End: api.EndMem, Steps: 1}, []int{1}},
		{code(word("ldc", 0, 0, 1)), api.Result{End: api.EndMem, Steps: 1}, []int{1}},
		{code(word("put", 0, 0, 0)), api.Result{End: api.EndPC, Out: "\x00", Steps: 1}, []int{1}},
		{code(word("jmp", 0, 0, 65535)), api.Result{End: api.EndPC, Steps: 1}, []int{1}},
		{code(word("jmp", 0, 0, 0)), api.Result{End: api.EndFuel, Steps: 50}, []int{50}},
		{api.Image{Code: []uint32{word("st", 0, 0, 1)}, Data: 2}, api.Result{End: api.EndPC, Steps: 1}, []int{1}},
		{api.Image{Code: []uint32{word("st", 0, 0, 2)}, Data: 2}, api.Result{End: api.EndMem, Steps: 1}, []int{1}},
	} {
		if r := runs(t, q.m, "", 50); r != q.want {
			t.Errorf("%d: %v; want %v", i, r, q.want)
		}
		if l := exec.Counts(q.m, "", 50); !slices.Equal(l, q.counts) {
			t.Errorf("%d: Counts %v; want %v", i, l, q.counts)
		}
	}
}

// P10.2: images that may not be are run, too: with no memory, where Data may
// not be, and with whatever code they have. Bytes knows none of them.
func TestMayNotBe(t *testing.T) {
	for _, data := range []int{-1, -32768, 32769, 65536, least, math.MaxInt} {
		m := api.Image{Code: []uint32{word("st", 0, 0, 0)}, Data: data}
		if r := runs(t, m, "", 9); r != (api.Result{End: api.EndMem, Steps: 1}) {
			t.Errorf("Data %d: %v; want EndMem", data, r)
		}
	}
	for _, n := range []int{16384, 16385, 70000} {
		m := api.Image{Code: make([]uint32, n), Data: 1}
		for i := range m.Code {
			m.Code[i] = word("st", 0, 0, 0)
		}
		if r := runs(t, m, "", n+1); r != (api.Result{End: api.EndPC, Steps: n}) {
			t.Errorf("%d words: %v; want EndPC behind all", n, r)
		}
	}
}

// P10.2: memory up to its end, and not beyond, also where the sum goes beyond
// 2^32 and begins again at 0.
func TestMemory(t *testing.T) {
	for _, data := range []int{1, 2, 255, 256, 32767, 32768} {
		for _, at := range []int{0, 1, data - 1, data, data + 1, 65535} {
			m := api.Image{Code: []uint32{word("ldc", 1, 0, 6), word("ldc", 2, 0, 7), word("st", 1, 2, 4), word("ld", 3, 2, 4), word("put", 3, 0, 0), word("halt", 0, 0, 0), 0x01020355, uint32(at) - 4}, Data: data}
			want := api.Result{End: api.EndDone, Out: "U", Steps: 6}
			if at >= data {
				want = api.Result{End: api.EndMem, Steps: 3}
			}
			if r := runs(t, m, "", 9); r != want {
				t.Errorf("the word %d of %d: %v; want %v", at, data, r, want)
			}
		}
	}
}

// P10.2: of a run that puts and puts, MaxOut bytes, and then EndOut.
func TestOut(t *testing.T) {
	m := code(word("put", 1, 0, 0), word("li", 2, 0, 1), word("add", 1, 1, 2), word("jmp", 0, 0, 0))
	want := make([]byte, 65536)
	for i := range want {
		want[i] = byte(i)
	}
	for _, q := range []struct{ fuel, bytes, end, steps int }{
		{4*65535 + 1, 65536, api.EndFuel, 4*65535 + 1},
		{4 * 65535, 65535, api.EndFuel, 4 * 65535},
		{4 * 65536, 65536, api.EndFuel, 4 * 65536},
		{4*65536 + 1, 65536, api.EndOut, 4*65536 + 1},
		{4*65536 + 2, 65536, api.EndOut, 4*65536 + 1},
		{most, 65536, api.EndOut, 4*65536 + 1},
	} {
		r := exec.Run(m, "", q.fuel)
		if r.End != q.end || r.Out != string(want[:q.bytes]) || r.Steps != q.steps {
			t.Errorf("fuel %d: End %d, %d bytes, %d steps; want End %d, %d bytes, %d steps", q.fuel, r.End, len(r.Out), r.Steps, q.end, q.bytes, q.steps)
		}
	}
	l := exec.Counts(m, "", most)
	if !slices.Equal(l, []int{65537, 65536, 65536, 65536}) {
		t.Errorf("Counts %v", l)
	}
}

// P10.1: what was put out ahead of a run counts, whether it is less than
// MaxOut bytes, as many, or more.
func TestOutAhead(t *testing.T) {
	m := code(word("put", 1, 0, 0), word("put", 2, 0, 0), word("put", 3, 0, 0), word("halt", 0, 0, 0))
	for _, n := range []int{0, 1, 255, 65532, 65533, 65534, 65535, 65536, 65537, 131072} {
		s := api.State{Out: strings.Repeat("x", n)}
		s.Reg[1], s.Reg[2], s.Reg[3] = 'A', 0xffffff00+'B', 256
		for fuel := range 6 {
			got := goes(t, m, "", s, fuel)
			want := s.Out + "AB\x00"[:max(min(3, fuel, 65536-n), 0)]
			if got.Out != want || (got.End == api.EndOut) != (n > 65533 && fuel > max(65536-n, 0)) {
				t.Errorf("behind %d bytes, fuel %d: %d bytes, End %d", n, fuel, len(got.Out), got.End)
			}
		}
	}
}

// P10.2: bytes that are no image's, though they are nearly one's.
func TestNoImage(t *testing.T) {
	b, _ := image.Put(code(word("halt", 0, 0, 0)))
	if r, e := exec.Bytes(b, "", 1); r != (api.Result{End: api.EndDone, Steps: 1}) || e != api.OK {
		t.Errorf("of an image's bytes: %v, %v", r, e)
	}
	wrong := []string{"", "SEED", "seed" + b[4:], " " + b, b + "\x00", b + "\x00\x00\x00\x00", b + b, strings.Replace(b, "\x01", "\x02", 1)}
	for n := range b {
		wrong = append(wrong, b[:n])
	}
	for _, s := range wrong {
		for _, fuel := range []int{-1, 0, 1, most} {
			if r, e := exec.Bytes(s, "in", fuel); r != (api.Result{}) || e != api.ErrForm {
				t.Errorf("of %q, fuel %d: %v, %v; want ErrForm", s, fuel, r, e)
			}
		}
	}
}

// P10.2: two results are the same if all three fields are.
func TestSame(t *testing.T) {
	for _, r := range []api.Result{{}, {End: 1, Out: "out", Steps: 12}, {End: least, Out: "\x00\xff", Steps: math.MaxInt}, {Out: strings.Repeat("o", 65536)}} {
		copied := r
		copied.Out = strings.Clone(r.Out)
		if !exec.Same(r, r) || !exec.Same(r, copied) {
			t.Errorf("%d, %d bytes, %d isn't the same as itself", r.End, len(r.Out), r.Steps)
		}
		for _, by := range []int{1, -1, 1 << 16, least, most + 1} {
			end, steps := r, r
			end.End += by
			steps.Steps += by
			if exec.Same(r, end) || exec.Same(end, r) || exec.Same(r, steps) || exec.Same(steps, r) {
				t.Errorf("%d, %d bytes, %d is the same as one with another End, or Steps, by %d", r.End, len(r.Out), r.Steps, by)
			}
		}
		for _, out := range []string{r.Out + "\x00", "\x00" + r.Out, strings.Repeat("p", len(r.Out)) + "p", r.Out[:len(r.Out)/2] + "." + r.Out[len(r.Out)/2:]} {
			other := r
			other.Out = out
			if exec.Same(r, other) || exec.Same(other, r) {
				t.Errorf("%d, %d bytes, %d is the same as one with another Out", r.End, len(r.Out), r.Steps)
			}
		}
	}
	if exec.Same(api.Result{End: 1, Steps: 2}, api.Result{End: 2, Steps: 1}) || exec.Same(api.Result{Out: "a"}, api.Result{Out: "A"}) {
		t.Error("unlike ones are the same")
	}
}

// P10.4: a run with some fuel, and one from there with some more, are one run
// with both; and all states between stay as they were.
func TestSplit(t *testing.T) {
	r := rand.New(rand.NewSource(4))
	for range 10000 {
		m := someImage(r)
		s := someState(r, m)
		in := "in\x00\xffput"[:r.Intn(8)]
		one, two := r.Intn(60)-5, r.Intn(60)-5
		between := exec.Go(m, in, s, one)
		kept := between
		kept.Mem = slices.Clone(between.Mem)
		got := exec.Go(m, in, between, two)
		if want := exec.Go(m, in, s, max(one, 0)+max(two, 0)); !alike(got, want) {
			t.Fatalf("%08x from %v, fuel %d, then %d: %v; want %v", m.Code, brief(s), one, two, brief(got), brief(want))
		}
		if !alike(between, kept) {
			t.Fatalf("%08x from %v, fuel %d: the state between became %v; it was %v", m.Code, brief(s), one, brief(between), brief(kept))
		}
		if again := exec.Go(m, in, between, two); !alike(again, got) {
			t.Fatalf("%08x, twice from one state: %v, %v", m.Code, brief(got), brief(again))
		}
	}
}

// P10.4: a run split into steps of its own is one run.
func TestStepByStep(t *testing.T) {
	r := rand.New(rand.NewSource(5))
	for range 1000 {
		m := someImage(r)
		s := machine.Start(m)
		for range 40 {
			s = exec.Go(m, "input", s, 1)
		}
		if want := exec.Go(m, "input", machine.Start(m), 40); !alike(s, want) {
			t.Fatalf("%08x, step by step: %v; want %v", m.Code, brief(s), brief(want))
		}
	}
}

// P10.4: a run that came to its end is the same with more fuel.
func TestMoreFuel(t *testing.T) {
	r := rand.New(rand.NewSource(6))
	ended := 0
	for range 5000 {
		m := someImage(r)
		first := exec.Run(m, "input", 100)
		if first.End == api.EndFuel {
			continue
		}
		ended++
		state, counts := exec.Go(m, "input", machine.Start(m), 100), exec.Counts(m, "input", 100)
		for _, fuel := range []int{101, 102, 1000, most} {
			if got := exec.Run(m, "input", fuel); !exec.Same(got, first) {
				t.Fatalf("%08x, fuel %d: %v; with 100: %v", m.Code, fuel, got, first)
			}
			if got := exec.Go(m, "input", machine.Start(m), fuel); !alike(got, state) {
				t.Fatalf("%08x, fuel %d: %v; with 100: %v", m.Code, fuel, brief(got), brief(state))
			}
			if got := exec.Counts(m, "input", fuel); !slices.Equal(got, counts) {
				t.Fatalf("%08x, fuel %d: Counts %v; with 100: %v", m.Code, fuel, got, counts)
			}
		}
	}
	if ended < 1000 {
		t.Errorf("but %d runs ended", ended)
	}
}

// P10.4: words that weren't done, nor read by an ldc, play no part.
func TestNoPart(t *testing.T) {
	r := rand.New(rand.NewSource(7))
	changed := 0
	for range 10000 {
		m := someImage(r)
		fuel := r.Intn(60)
		want, counts, used := told(m, "input", machine.Start(m), fuel)
		other := m
		other.Code = slices.Clone(m.Code)
		for i := range other.Code {
			if !used[i] {
				other.Code[i] = r.Uint32() % (28 << 24)
				changed++
			}
		}
		if got := exec.Go(other, "input", machine.Start(m), fuel); !alike(got, want) {
			t.Fatalf("%08x, and %08x: %v; want %v", m.Code, other.Code, brief(got), brief(want))
		}
		if got := exec.Counts(other, "input", fuel); !slices.Equal(got, counts) {
			t.Fatalf("%08x, and %08x: Counts %v; want %v", m.Code, other.Code, got, counts)
		}
	}
	if changed < 10000 {
		t.Errorf("but %d words were changed", changed)
	}
}

// sorter puts its input out, sorted, and then goes on filling its memory, which
// is all that there may be, again and again.
func sorter() api.Image {
	return api.Image{Data: 32768, Code: []uint32{
		word("li", 1, 0, 1),
		word("get", 2, 0, 0), // 1: each byte's word tells how often it came
		word("li", 3, 0, 256),
		word("eq", 3, 2, 3),
		word("jnz", 3, 0, 9),
		word("ld", 4, 2, 7),
		word("add", 4, 4, 1),
		word("st", 4, 2, 7),
		word("jmp", 0, 0, 1),
		word("li", 2, 0, 0), // 9: all bytes
		word("ld", 4, 2, 7), // 10: as often as this one came
		word("jz", 4, 0, 16),
		word("put", 2, 0, 0),
		word("sub", 4, 4, 1),
		word("st", 4, 2, 7),
		word("jmp", 0, 0, 10),
		word("add", 2, 2, 1), // 16: the next one
		word("li", 3, 0, 256),
		word("lt", 3, 2, 3),
		word("jnz", 3, 0, 10),
		word("li", 2, 0, 0), // 20: all of the memory
		word("st", 1, 2, 0), // 21
		word("add", 2, 2, 1),
		word("li", 3, 0, 32768),
		word("lt", 3, 2, 3),
		word("jnz", 3, 0, 21),
		word("jmp", 0, 0, 20),
	}}
}

// P10.1, P10.3, P10.4: a long run, whole and split. (With the memory copied at
// each store, it would take minutes.)
func TestLong(t *testing.T) {
	const fuel = 6000000
	m, in := sorter(), make([]byte, 60000)
	rand.New(rand.NewSource(8)).Read(in)
	whole := exec.Go(m, string(in), machine.Start(m), fuel)
	split := exec.Go(m, string(in), exec.Go(m, string(in), machine.Start(m), fuel/9), fuel-fuel/9)
	if !alike(split, whole) {
		t.Errorf("split: %v; want %v", brief(split), brief(whole))
	}
	if n := sum(exec.Counts(m, string(in), fuel)); n != fuel {
		t.Errorf("Counts add up to %d; want %d", n, fuel)
	}
	slices.Sort(in)
	if whole.End != api.Going || whole.Steps != fuel || whole.Read != len(in) || whole.Out != string(in) {
		t.Errorf("End %d, %d steps, %d bytes read, %d put out", whole.End, whole.Steps, whole.Read, len(whole.Out))
	}
	if !slices.Equal(whole.Mem, slices.Repeat([]uint32{1}, 32768)) {
		t.Errorf("a memory of %d words, not all 1", len(whole.Mem))
	}
}

// P10.1: states share nothing that a later run writes to: two runs from one
// state, and the state itself, stay apart.
func TestApart(t *testing.T) {
	m := api.Image{Data: 3, Code: []uint32{word("st", 1, 2, 0), word("put", 1, 0, 0), word("add", 2, 2, 1), word("jmp", 0, 0, 0)}}
	room := []uint32{7, 8, 9, 10, 11}
	s := api.State{Mem: room[1:4], Out: "ahead"}
	s.Reg[1] = 1
	first := exec.Go(m, "", s, 5)
	s.Reg[1] = 2
	second := exec.Go(m, "", s, 5)
	if !slices.Equal(first.Mem, []uint32{1, 1, 10}) || !slices.Equal(second.Mem, []uint32{2, 9, 2}) {
		t.Errorf("memories %v, %v", first.Mem, second.Mem)
	}
	if first.Out != "ahead\x01" || second.Out != "ahead\x02" || s.Out != "ahead" {
		t.Errorf("outputs %q, %q, %q", first.Out, second.Out, s.Out)
	}
	if !slices.Equal(room, []uint32{7, 8, 9, 10, 11}) {
		t.Errorf("what was handed over is %v", room)
	}
	third, fourth := exec.Go(m, "", first, 4), exec.Go(m, "", first, 4)
	if !alike(third, fourth) || !slices.Equal(first.Mem, []uint32{1, 1, 10}) {
		t.Errorf("%v, %v, behind %v", third, fourth, first)
	}
}
