package image_test

import (
	"encoding/binary"
	"math"
	"math/rand"
	"slices"
	"strings"
	"testing"

	"seedcorn/api"
	"seedcorn/image"
)

// farOff is a number whose low bits are those of 0.
const farOff = math.MaxInt/2 + 1

// edges are words at which reading one may go wrong first.
var edges = []uint32{0, 1, 5, 127, 128, 255, 256, 65535, 65536, 1<<24 - 1, 1 << 24, 0x01020304, 1<<31 - 1, 1 << 31, math.MaxUint32}

// mayBe are Data that may be, mayNot are those that may not.
var (
	mayBe  = []int{0, 1, 2, 255, 256, 257, 16384, 32767, 32768}
	mayNot = []int{-1, -2, -32768, -65536, 32769, 32770, 65535, 65536, 1 << 24, math.MaxInt32, math.MinInt32, farOff, farOff + 2, -farOff, math.MaxInt, math.MinInt, math.MinInt + 1}
)

// code is n words, the same at each run, no two of one code alike as a rule.
func code(n int) []uint32 {
	r := rand.New(rand.NewSource(int64(n)))
	l := make([]uint32, n)
	for i := range l {
		l[i] = r.Uint32()
	}
	copy(l, edges)
	return l
}

// bytesOf are the bytes that the chapter tells, the front's numbers apart from
// the code, so that they may be false.
func bytesOf(count, data uint32, code []uint32) string {
	b := []byte("SEED")
	b = binary.LittleEndian.AppendUint32(b, count)
	b = binary.LittleEndian.AppendUint32(b, data)
	for _, w := range code {
		b = binary.LittleEndian.AppendUint32(b, w)
	}
	return string(b)
}

// images are some that may be, no two the same.
func images() []api.Image {
	var l []api.Image
	for _, n := range []int{0, 1, 2, 3, 4, 15, 255, 256, 257, 16383, 16384} {
		for _, data := range mayBe {
			l = append(l, api.Image{Code: code(n), Data: data})
		}
	}
	for _, w := range edges {
		l = append(l, api.Image{Code: []uint32{w}, Data: 3}, api.Image{Code: []uint32{w, w}, Data: 3}, api.Image{Code: []uint32{0, w}, Data: 4})
	}
	return l
}

// refused sees to it that s is no image's bytes, and that nothing is told
// beside the error.
func refused(t *testing.T, why, s string) {
	t.Helper()
	m, e := image.Read(s)
	if e != api.ErrForm || len(m.Code) != 0 || m.Data != 0 {
		t.Errorf("%s: Read of %d bytes: %d words, Data %d, %v", why, len(s), len(m.Code), m.Data, e)
	}
}

// P8.2, P8.3: the chapter's example.
func TestExample(t *testing.T) {
	m := api.Image{Code: []uint32{5}, Data: 2}
	const s = "SEED\x01\x00\x00\x00\x02\x00\x00\x00\x05\x00\x00\x00"
	if got, e := image.Put(m); got != s || e != api.OK {
		t.Errorf("Put: %q, %v", got, e)
	}
	if got, e := image.Read(s); !slices.Equal(got.Code, m.Code) || got.Data != 2 || e != api.OK {
		t.Errorf("Read: %v, %v", got, e)
	}
}

// P8.1: Right, at both ends of each limit, and far beyond them.
func TestRight(t *testing.T) {
	lengths := []int{0, 1, 2, 16383, 16384}
	for _, n := range lengths {
		for _, data := range mayBe {
			if !image.Right(api.Image{Code: make([]uint32, n), Data: data}) {
				t.Errorf("%d words, Data %d may not be", n, data)
			}
		}
		for _, data := range mayNot {
			if image.Right(api.Image{Code: make([]uint32, n), Data: data}) {
				t.Errorf("%d words, Data %d may be", n, data)
			}
		}
	}
	for _, n := range []int{16385, 16386, 32768, 65536, 65537, 1 << 20} {
		for _, data := range append(mayBe, mayNot...) {
			if image.Right(api.Image{Code: make([]uint32, n), Data: data}) {
				t.Errorf("%d words, Data %d may be", n, data)
			}
		}
	}
	for _, w := range edges {
		if !image.Right(api.Image{Code: []uint32{w, w}, Data: 1}) {
			t.Errorf("the word %d makes that an image may not be", w)
		}
	}
}

// P8.1: Same, of images that may be and of those that may not.
func TestSame(t *testing.T) {
	l := images()
	for _, data := range mayNot {
		l = append(l, api.Image{Data: data}, api.Image{Code: []uint32{5}, Data: data})
	}
	l = append(l, api.Image{Code: code(16385), Data: 2}, api.Image{Code: code(16386), Data: 2})
	var keys []string
	for _, m := range l {
		keys = append(keys, bytesOf(0, 0, m.Code))
	}
	for i, a := range l {
		for j, b := range l {
			like := a.Data == b.Data && keys[i] == keys[j]
			if image.Same(a, b) != like {
				t.Errorf("%d and %d (%d and %d words, Data %d and %d): not %v", i, j, len(a.Code), len(b.Code), a.Data, b.Data, like)
			}
		}
		if !image.Same(a, api.Image{Code: slices.Clone(a.Code), Data: a.Data}) {
			t.Errorf("%d isn't the same as a copy of it", i)
		}
	}
}

// P8.1: Same looks at each word, and at how many there are.
func TestSameWords(t *testing.T) {
	a := api.Image{Code: code(300), Data: 7}
	for i := range a.Code {
		for _, bit := range []uint32{1, 1 << 15, 1 << 31} {
			b := api.Image{Code: slices.Clone(a.Code), Data: 7}
			b.Code[i] ^= bit
			if image.Same(a, b) || image.Same(b, a) {
				t.Errorf("the same, though the words %d differ", i)
			}
		}
		b := api.Image{Code: a.Code[:i], Data: 7}
		if image.Same(a, b) || image.Same(b, a) {
			t.Errorf("%d words are the same as 300", i)
		}
	}
	if !image.Same(api.Image{}, api.Image{Code: []uint32{}}) || !image.Same(api.Image{Code: []uint32{}}, api.Image{}) {
		t.Error("no code and empty code are not the same")
	}
	if image.Same(api.Image{}, api.Image{Code: []uint32{0}}) || image.Same(api.Image{Code: []uint32{0}}, api.Image{}) {
		t.Error("no code and a word 0 are the same")
	}
}

// P8.2, P8.3, P8.4: what is put are the chapter's bytes, and is read.
func TestPutRead(t *testing.T) {
	for i, m := range images() {
		s, e := image.Put(m)
		if e != api.OK || s != bytesOf(uint32(len(m.Code)), uint32(m.Data), m.Code) {
			t.Errorf("%d: Put: other bytes, %v", i, e)
		}
		got, e := image.Read(s)
		if e != api.OK || got.Data != m.Data || !slices.Equal(got.Code, m.Code) || !image.Same(got, m) {
			t.Errorf("%d: Read: another image, %v", i, e)
		}
	}
}

// P8.2: an image that may not be has no bytes.
func TestPutWrong(t *testing.T) {
	var l []api.Image
	for _, data := range mayNot {
		l = append(l, api.Image{Data: data}, api.Image{Code: code(1), Data: data}, api.Image{Code: code(16384), Data: data})
	}
	for _, n := range []int{16385, 16386, 65536, 65537} {
		l = append(l, api.Image{Code: code(n)}, api.Image{Code: code(n), Data: 32768}, api.Image{Code: code(n), Data: -1})
	}
	for _, m := range l {
		if s, e := image.Put(m); s != "" || e != api.ErrArg {
			t.Errorf("%d words, Data %d: %d bytes, %v", len(m.Code), m.Data, len(s), e)
		}
	}
}

// P8.3: the mark is those four bytes alone.
func TestReadMark(t *testing.T) {
	whole := bytesOf(1, 2, []uint32{5})
	for at := range 4 {
		for c := range 256 {
			b := []byte(whole)
			b[at] = byte(c)
			if byte(c) != whole[at] {
				refused(t, "the mark", string(b))
			}
		}
	}
	for _, s := range []string{whole[1:], whole[4:], " " + whole, "\x00" + whole, "SEED" + whole, strings.ToLower(whole), "\xef\xbb\xbf" + whole} {
		refused(t, "the mark", s)
	}
}

// P8.3: what an image isn't: too short, too long, numbers that are beyond, or
// other than what stands behind them.
func TestReadWrong(t *testing.T) {
	for _, n := range []int{0, 1, 2, 5, 255, 256, 16384} {
		words := code(n)
		for _, count := range append([]uint32{uint32(n - 1), uint32(n + 1), uint32(n) + 1<<8, uint32(n) + 1<<16, uint32(n) + 1<<24, uint32(n) + 1<<30, uint32(n) + 1<<31, uint32(n) * 4, -uint32(n)}, edges...) {
			if count != uint32(n) {
				refused(t, "how many words", bytesOf(count, 2, words))
			}
		}
		for _, data := range mayNot {
			if uint32(data) > 32768 {
				refused(t, "Data", bytesOf(uint32(n), uint32(data), words))
			}
		}
		for _, data := range []uint32{32769, 65535, 65536, 65538, 1 << 24, 1<<31 - 1, 1 << 31, 1<<31 + 2, math.MaxUint32} {
			refused(t, "Data", bytesOf(uint32(n), data, words))
		}
	}
	for _, n := range []int{16385, 16386, 16640, 65536, 1 << 18} {
		refused(t, "too many words", bytesOf(uint32(n), 2, make([]uint32, n)))
	}
	for n := range 40 {
		refused(t, "zeros", strings.Repeat("\x00", n))
		refused(t, "the mark alone", strings.Repeat("SEED", n))
	}
	refused(t, "much", "SEED"+strings.Repeat("\x00", 1<<22))
}

// P8.4: no image's bytes stand ahead of another one's: neither less nor more of
// them are read.
func TestReadAhead(t *testing.T) {
	for _, m := range []api.Image{{}, {Data: 2}, {Code: []uint32{0}}, {Code: []uint32{5}, Data: 2}, {Code: make([]uint32, 9), Data: 9}, {Code: code(260), Data: 32768}} {
		s, _ := image.Put(m)
		for n := range len(s) {
			refused(t, "cut", s[:n])
		}
		for n := 1; n < 20; n++ {
			refused(t, "zeros behind it", s+strings.Repeat("\x00", n))
			refused(t, "itself behind it", s+s[:min(n, len(s))])
		}
		refused(t, "itself behind it", s+s)
	}
	full, _ := image.Put(api.Image{Code: code(16384), Data: 2})
	for n := 1; n < 20; n++ {
		refused(t, "cut", full[:len(full)-n])
		refused(t, "more behind it", full+strings.Repeat("S", n))
	}
}

// P8.3, P8.4: what is read was put: of any bytes an image is told only if they
// are its own, and they are told wrong only if they are none's.
func TestReadAny(t *testing.T) {
	r := rand.New(rand.NewSource(8))
	read := 0
	for range 200000 {
		b := []byte(bytesOf(uint32(r.Intn(4)), uint32(r.Intn(40000)), code(r.Intn(4))))
		for range r.Intn(3) {
			b[r.Intn(len(b))] = byte(r.Intn(256))
		}
		if r.Intn(8) == 0 {
			b = b[:r.Intn(len(b))]
		}
		s := string(b)
		m, e := image.Read(s)
		if e != api.OK {
			refused(t, "any", s)
			if isOne(s) {
				t.Fatalf("%q is an image's bytes: %v", s, e)
			}
			continue
		}
		read++
		if back, e := image.Put(m); e != api.OK || back != s || !isOne(s) || !image.Right(m) {
			t.Fatalf("%q was read, but not put: %q, %v", s, back, e)
		}
	}
	if read < 1000 {
		t.Errorf("only %d were read", read)
	}
}

// isOne tells of few bytes if they are an image's.
func isOne(s string) bool {
	if len(s) < 12 || s[:4] != "SEED" || len(s)%4 != 0 {
		return false
	}
	count, data := binary.LittleEndian.Uint32([]byte(s[4:])), binary.LittleEndian.Uint32([]byte(s[8:]))
	return count == uint32(len(s)/4-3) && data <= 32768
}

// Rule 5: what is handed in is never changed, its spare room neither.
func TestUnchanged(t *testing.T) {
	room := code(50)
	was := slices.Clone(room)
	m := api.Image{Code: room[:20:40], Data: 2}
	for range 2 {
		s, e := image.Put(m)
		got, f := image.Read(s)
		if e != api.OK || f != api.OK || !image.Same(got, m) || !image.Right(m) {
			t.Fatalf("%v, %v", e, f)
		}
		for i := range got.Code {
			got.Code[i]++
		}
	}
	if !slices.Equal(room, was) {
		t.Error("what was handed in is changed")
	}
}

// Rule 6: a call hangs on its arguments alone, between other calls too.
func TestAgain(t *testing.T) {
	s := bytesOf(2, 3, []uint32{8, 9})
	for range 3 {
		refused(t, "between", s[:len(s)-1])
		image.Put(api.Image{Data: -1})
		a, e := image.Read(s)
		b, f := image.Read(s)
		if e != api.OK || f != api.OK || !image.Same(a, b) || !slices.Equal(a.Code, []uint32{8, 9}) || a.Data != 3 {
			t.Errorf("%v, %v; %v, %v", a, e, b, f)
		}
	}
}
