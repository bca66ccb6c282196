package digest_test

import (
	"fmt"
	"math"
	"math/rand"
	"strings"
	"testing"

	"seedcorn/api"
	"seedcorn/digest"
)

const top = math.MaxUint32

// states are some with all words alike, those with one bit alone, and some
// from all over, the same at each run.
func states() [][8]uint32 {
	l := [][8]uint32{{}, {1}, {2}, {1, 2, 3, 4, 5, 6, 7, 8}, {top, top, top, top, top, top, top, top}}
	for i := range 8 * 32 {
		var s [8]uint32
		s[i/32] = 1 << (i % 32)
		l = append(l, s)
	}
	r := rand.New(rand.NewSource(1))
	for range 2000 {
		var s [8]uint32
		for j := range s {
			s[j] = r.Uint32()
		}
		l = append(l, s)
	}
	return l
}

// sum is modulo 2^32, by numbers that don't run over.
func sum(a, b uint64) uint64 { return (a + b) % (1 << 32) }

// turned moves a's bits one by one, round and round, n times.
func turned(a uint64, n int) uint64 {
	for range n {
		a = a*2%(1<<32) + a>>31
	}
	return a
}

// mixed says Mix as the chapter does.
func mixed(s [8]uint32) [8]uint32 {
	var w [8]uint64
	for j := range w {
		w[j] = uint64(s[j])
	}
	for r := uint64(0); r < 8; r++ {
		w[0] = sum(w[0], 2654435769*(r+1))
		for i, places := range map[int]int{0: 7, 1: 9, 2: 13, 3: 18} { // in any order: none touches another one's words
			w[i] = sum(w[i], w[i+4])
			w[i+4] = turned(w[i+4]^w[i], places)
		}
		w = [8]uint64{w[3], w[4], w[5], w[6], w[7], w[0], w[1], w[2]}
	}
	for j := range w {
		s[j] = uint32(w[j])
	}
	return s
}

// filled are the bytes as blocks: with 128, zeros, and how many they were.
func filled(s string) [][4]uint32 {
	b := append([]byte(s), 128)
	for len(b)%16 != 8 {
		b = append(b, 0)
	}
	for i := range 8 {
		b = append(b, byte(uint64(len(s))>>(8*i)))
	}
	var l [][4]uint32
	for ; len(b) > 0; b = b[16:] {
		var k [4]uint32
		for j := range 16 {
			k[j/4] += uint32(b[j]) << (8 * (j % 4))
		}
		l = append(l, k)
	}
	return l
}

// through takes blocks in, by Mix itself, from the state s on.
func through(s [8]uint32, blocks ...[4]uint32) [8]uint32 {
	for _, b := range blocks {
		for j := range b {
			s[j] ^= b[j]
		}
		s = digest.Mix(s)
	}
	return s
}

func front(s [8]uint32) api.Digest { return api.Digest(s[:4]) }

// text says Text by fmt.
func text(d api.Digest) string { return fmt.Sprintf("%08x%08x%08x%08x", d[0], d[1], d[2], d[3]) }

// texts are byte rows of each length up to 100, around greater multiples of
// 16, and some with the bytes that end a row.
func texts() []string {
	r := rand.New(rand.NewSource(2))
	l := []string{"\x80", "\x80\x00", "a\x80", "a\x80\x00\x00", strings.Repeat("\x00", 16), strings.Repeat("\x80", 31)}
	row := func(n int) {
		b := make([]byte, n)
		r.Read(b)
		l = append(l, string(b))
	}
	for n := range 101 {
		row(n)
	}
	for _, n := range []int{255, 256, 257, 4095, 4096, 65535, 65536, 65537} {
		row(n)
	}
	return l
}

// P3.1: what eight rounds make of a state, reckoned elsewhere.
func TestMix(t *testing.T) {
	for _, q := range []struct{ s, want [8]uint32 }{
		{[8]uint32{},
			[8]uint32{0xaefd9057, 0xfecabb6a, 0x80434741, 0xc98dfea4, 0xc1ec32ff, 0xa03d7337, 0x82d3f5f1, 0xf6529f87}},
		{[8]uint32{1, 2, 3, 4, 5, 6, 7, 8},
			[8]uint32{0x90778796, 0x9464f70c, 0x2d056284, 0xf777be00, 0x82f9526f, 0xfa1017f7, 0xab3e6c57, 0xea2f0da3}},
		{[8]uint32{top, top, top, top, top, top, top, top},
			[8]uint32{0x58aa8752, 0x4b4674d5, 0x8fffbf83, 0xc9df6e68, 0x157c9cb1, 0xb815091a, 0x642eb31e, 0xcdfbd0f1}},
		{[8]uint32{7: 1 << 31},
			[8]uint32{0xaefd9057, 0xfecabb6a, 0x80434741, 0x2cd6e05f, 0xc1ec32ff, 0xa03d7337, 0x82d3f5f1, 0x448a13f6}},
	} {
		if got := digest.Mix(q.s); got != q.want {
			t.Errorf("Mix(%d): %08x; want %08x", q.s, got, q.want)
		}
		if got := digest.Unmix(q.want); got != q.s {
			t.Errorf("Unmix(%08x): %d; want %d", q.want, got, q.s)
		}
	}
}

// P3.1: the same as step by step, of any state; and Unmix tells what was mixed.
func TestMixReckoned(t *testing.T) {
	for _, s := range states() {
		want := mixed(s)
		if got := digest.Mix(s); got != want {
			t.Fatalf("Mix(%08x): %08x; want %08x", s, got, want)
		}
		if got := digest.Unmix(want); got != s {
			t.Fatalf("Unmix(%08x): %08x; want %08x", want, got, s)
		}
		if got := mixed(digest.Unmix(s)); got != s {
			t.Fatalf("Unmix(%08x), mixed: %08x", s, got)
		}
	}
}

// P3.2: digests reckoned elsewhere: around the lengths at which a block more is needed.
func TestOf(t *testing.T) {
	all := make([]byte, 256)
	for i := range all {
		all[i] = byte(i)
	}
	for _, q := range []struct{ s, want string }{
		{"", "4e1b2d5cfecabb6a80434741c98dfea4"},
		{"\x00", "f854f5defecabb6a43516adfc98dfea4"},
		{"\x80", "791f36dffecabb6a43516adfc98dfea4"},
		{"a", "ea3e3eb2fecabb6a43516adfc98dfea4"},
		{"ab", "1bb7f68ffecabb6a9d62fefbc98dfea4"},
		{"abc", "f2ffbc80fecabb6ab20fb626c98dfea4"},
		{"1234567", "4a15c316ac793a78f6958ba8c98dfea4"},
		{"12345678", "a3f2d4afdcfe39ab34a53f6ee8cbd55f"},
		{"123456789abcdef", "a3f2d4afdcfe39aba045955d58bcdccd"},
		{"123456789abcdef0", "60e0fc8ddcfe39abab1a899c04f8fc11"},
		{"0123456789abcdef0123456", "4e8ab88364dae0a413a81a7f2c8576be"},
		{"0123456789abcdef01234567", "573db0cb7bcb4206f43df17396606016"},
		{string(all), "1ce987c8f929aaf4c504b44ce7d07ce5"},
		{strings.Repeat("a", 1000), "d7d57a3f84289bdae8975bf4179dcdf5"},
		{strings.Repeat("a", 65536), "65887afca39a4bc198dfae0cd1e134f0"},
		{strings.Repeat("a", 65537), "1a5c52f9a39a4bc1363d7e57d1e134f0"},
	} {
		if got := text(digest.Of(q.s)); got != q.want {
			t.Errorf("Of(%.30q): %s; want %s", q.s, got, q.want)
		}
	}
}

// P3.2: of a pair from a state of its own on, the first one first.
func TestPair(t *testing.T) {
	a, b := api.Digest{1, 2, 3, 255}, api.Digest{top, 0, 1 << 31, 7}
	for _, q := range []struct {
		a, b api.Digest
		want string
	}{
		{api.Digest{}, api.Digest{}, "e9c0c147bdf0f1b38f0e2f49e8cbd55f"},
		{a, b, "3afd1c0b3aac58da3b859dcec8258503"},
		{b, a, "5fad67d8ef6e123a754f22e41249cbf2"},
	} {
		if got := text(digest.Pair(q.a, q.b)); got != q.want {
			t.Errorf("Pair(%d, %d): %s; want %s", q.a, q.b, got, q.want)
		}
	}
}

// P3.2: alike bytes have alike digests, and unlike ones here unlike ones: rows
// that differ in a byte, in their length, in their order.
func TestOfTellsApart(t *testing.T) {
	seen := map[api.Digest]string{}
	tell := func(s string) {
		d := digest.Of(s)
		if d != digest.Of(strings.Clone(s)) {
			t.Errorf("Of(%.30q) is not always the same", s)
		}
		if was, ok := seen[d]; ok && was != s {
			t.Errorf("Of(%.30q) is Of(%.30q)", s, was)
		}
		seen[d] = s
	}
	for _, s := range texts() {
		tell(s)
	}
	for n := range 70 {
		tell(strings.Repeat("\x00", n))
		tell(strings.Repeat("\x00", n) + "\x80")
		tell(strings.Repeat("\x00", n) + "\x01" + strings.Repeat("\x00", 69-n))
	}
	for _, s := range []string{"ab", "ba", "ab\x80", "ab\x80\x00"} {
		tell(s)
	}
}

// P3.3: the words in order, each from its highest digit on.
func TestText(t *testing.T) {
	for _, q := range []struct {
		d    api.Digest
		want string
	}{
		{api.Digest{1, 2, 3, 255}, "000000010000000200000003000000ff"},
		{api.Digest{}, "00000000000000000000000000000000"},
		{api.Digest{top, top, top, top}, "ffffffffffffffffffffffffffffffff"},
		{api.Digest{0x01234567, 0x89abcdef, 0xfedcba98, 0x76543210}, "0123456789abcdeffedcba9876543210"},
		{api.Digest{1 << 31, 1 << 24, 1 << 4, 0xf}, "8000000001000000000000100000000f"},
	} {
		if got := digest.Text(q.d); got != q.want {
			t.Errorf("Text(%d): %s; want %s", q.d, got, q.want)
		}
		for _, s := range []string{q.want, strings.ToUpper(q.want)} {
			if d, e := digest.Parse(s); d != q.d || e != api.OK {
				t.Errorf("Parse(%q): %d, %d; want %d", s, d, e, q.d)
			}
		}
	}
	d, e := digest.Parse("AbCdEf00000000000000000000fEdCbA")
	if want := (api.Digest{0xabcdef00, 0, 0, 0x00fedcba}); d != want || e != api.OK {
		t.Errorf("of mixed digits: %08x, %d; want %08x", d, e, want)
	}
}

// P3.3: what has not just 32 digits is none.
func TestParseErrors(t *testing.T) {
	good := "0123456789abcdefABCDEF9876543210"
	wrong := []string{
		"", "0", good[1:], good[2:], good + "0", good + "00", good + good, strings.Repeat(good, 10000),
		" " + good, good + " ", good + "\n", good + "#", good[:31] + " ", " " + good[1:], good[:16] + " " + good[16:],
		"0x" + good, "0x" + good[2:], good[:31] + "\x00", good[:30] + "\u00e9", good[:30] + "\u0661",
		strings.Repeat("#", 32), strings.Repeat("\xff", 32),
	}
	for n := range 100 {
		if n != 32 {
			wrong = append(wrong, strings.Repeat("5", n))
		}
	}
	for _, s := range wrong {
		if d, e := digest.Parse(s); d != (api.Digest{}) || e != api.ErrSyntax {
			t.Errorf("Parse(%.50q): %d, %d; want ErrSyntax", s, d, e)
		}
	}
}

// P3.3: at each place just the 22 digits may stand.
func TestParseEachByte(t *testing.T) {
	good := []byte(strings.Repeat("0", 32))
	for i := range good {
		for c := range 256 {
			good[i] = byte(c)
			v := strings.IndexByte("0123456789abcdef", byte(c))
			if v < 0 {
				v = strings.IndexByte("0123456789ABCDEF", byte(c))
			}
			var want api.Digest
			wantErr := api.ErrSyntax
			if v >= 0 {
				want[i/8], wantErr = uint32(v)<<(28-4*(i%8)), api.OK
			}
			if d, e := digest.Parse(string(good)); d != want || e != wantErr {
				t.Fatalf("Parse(%q): %08x, %d; want %08x, %d", good, d, e, want, wantErr)
			}
		}
		good[i] = '0'
	}
}

// P3.4: mixed, and unmixed, a state is as it was, either way, and often.
func TestThereAndBack(t *testing.T) {
	for _, s := range states() {
		if got := digest.Unmix(digest.Mix(s)); got != s {
			t.Fatalf("%08x, mixed and unmixed: %08x", s, got)
		}
		if got := digest.Mix(digest.Unmix(s)); got != s {
			t.Fatalf("%08x, unmixed and mixed: %08x", s, got)
		}
	}
	s := [8]uint32{1}
	for range 1000 {
		s = digest.Mix(s)
	}
	for range 1000 {
		s = digest.Unmix(s)
	}
	if s != [8]uint32{1} {
		t.Errorf("a thousand times there and back: %08x", s)
	}
}

// P3.4: texts come back, and digests from them.
func TestTextsComeBack(t *testing.T) {
	for _, s := range states() {
		d := front(s)
		w := digest.Text(d)
		if w != text(d) {
			t.Fatalf("Text(%d): %s; want %s", d, w, text(d))
		}
		if back, e := digest.Parse(w); back != d || e != api.OK {
			t.Fatalf("Parse(%s): %d, %d; want %d", w, back, e, d)
		}
	}
}

// P3.2, P3.4: a digest is what Mix makes of the blocks; unmixed, and the
// blocks taken out again, it leads to where it came from.
func TestBlocksBehindOneAnother(t *testing.T) {
	for _, s := range texts() {
		blocks := filled(s)
		end := through([8]uint32{1}, blocks...)
		if got := digest.Of(s); got != front(end) {
			t.Fatalf("Of %d bytes: %08x; want %08x", len(s), got, front(end))
		}
		for i := len(blocks) - 1; i >= 0; i-- {
			end = digest.Unmix(end)
			for j, w := range blocks[i] {
				end[j] ^= w
			}
		}
		if end != [8]uint32{1} {
			t.Fatalf("back from %d bytes: %08x", len(s), end)
		}
	}
	for _, s := range states() {
		a, b := front(s), api.Digest(s[4:])
		if got := digest.Pair(a, b); got != front(through([8]uint32{2}, a, b)) {
			t.Fatalf("Pair(%08x, %08x): %08x", a, b, got)
		}
	}
}

// meeting are two rows of two blocks each that lead from s to one state: two
// first blocks with which the words 4 to 7 come out alike, and second ones
// that make up for how the words 0 to 3 differ.
func meeting(s [8]uint32) (a, b [2][4]uint32) {
	seen := map[[4]uint32]uint32{}
	for n := uint32(0); ; n++ {
		now := through(s, [4]uint32{n})
		high := [4]uint32(now[4:])
		if m, ok := seen[high]; ok {
			a, b = [2][4]uint32{{m}}, [2][4]uint32{{n}}
			was := through(s, a[0])
			for j := range high {
				b[1][j] = was[j] ^ now[j]
			}
			return a, b
		}
		seen[high] = n
	}
}

// row is blocks as bytes.
func row(blocks [2][4]uint32) string {
	var b []byte
	for _, k := range blocks {
		for _, w := range k {
			b = append(b, byte(w), byte(w>>8), byte(w>>16), byte(w>>24))
		}
	}
	return string(b)
}

// P3.4: two rows whose blocks lead to one state, and go on alike, have one digest.
func TestRowsThatMeet(t *testing.T) {
	a, b := meeting([8]uint32{1})
	x, y := row(a), row(b)
	if x == y {
		t.Fatalf("%x is one row", x)
	}
	for _, s := range texts() {
		if digest.Of(x+s) != digest.Of(y+s) {
			t.Fatalf("%x and %x, each with %.20q, have two digests", x, y, s)
		}
	}
	if digest.Of(x) == digest.Of(y[:31]) || digest.Of(x[:16]) == digest.Of(y[:16]) || digest.Of(x+"a") == digest.Of(y+"b") {
		t.Error("rows that don't go on alike have one digest")
	}
	a, b = meeting([8]uint32{2})
	if a == b || digest.Pair(a[0], a[1]) != digest.Pair(b[0], b[1]) {
		t.Errorf("Pair of %08x, and of %08x: two digests", a, b)
	}
}

func FuzzOf(f *testing.F) {
	for _, s := range texts()[:40] {
		f.Add(s)
	}
	f.Fuzz(func(t *testing.T, s string) {
		if got, want := digest.Of(s), front(through([8]uint32{1}, filled(s)...)); got != want {
			t.Errorf("Of(%q): %08x; want %08x", s, got, want)
		}
		if d, e := digest.Parse(s); e == api.OK && digest.Text(d) != strings.ToLower(s) {
			t.Errorf("Parse(%q): %08x", s, d)
		}
	})
}
