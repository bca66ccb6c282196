package hex_test

import (
	stdhex "encoding/hex"
	"fmt"
	"math/rand"
	"strings"
	"testing"

	"seedcorn/api"
	"seedcorn/hex"
)

// allBytes is each byte once, from 0 on.
func allBytes() string {
	b := make([]byte, 256)
	for i := range b {
		b[i] = byte(i)
	}
	return string(b)
}

// samples are texts of each length up to 70, and some long ones, of any bytes,
// the same at each run.
func samples() []string {
	r := rand.New(rand.NewSource(1))
	l := []string{allBytes()}
	for n := range 71 {
		l = append(l, randomText(r, n))
	}
	for _, n := range []int{255, 256, 257, 1000, 65536, 100001} {
		l = append(l, randomText(r, n))
	}
	return l
}

func randomText(r *rand.Rand, n int) string {
	b := make([]byte, n)
	r.Read(b)
	return string(b)
}

// eachText gives all texts of up to n signs, each of them one of those.
func eachText(signs string, n int, give func(t string)) {
	var grow func(t string)
	grow = func(t string) {
		give(t)
		if len(t) == n {
			return
		}
		for i := range len(signs) {
			grow(t + signs[i:i+1])
		}
	}
	grow("")
}

// signs are digits at the ends of their ranges, and all else that a text may turn on.
const signs = "09aF #\ng"

// isDigit says it as the chapter does.
func isDigit(c byte) bool {
	return strings.IndexByte("0123456789abcdefABCDEF", c) >= 0
}

// P2.1: two small digits a byte, the higher one first.
func TestText(t *testing.T) {
	for _, q := range []struct{ s, want string }{
		{"", ""},
		{"Az", "417a"},
		{"SEED", "53454544"},
		{"\x00", "00"},
		{"\xff", "ff"},
		{"\x0f\xf0", "0ff0"},
		{"\x01\x23\x45\x67\x89\xab\xcd\xef", "0123456789abcdef"},
		{"\u00e9", "c3a9"}, // bytes, not characters
		{"\xc3\xff", "c3ff"},
	} {
		if got := hex.Text(q.s); got != q.want {
			t.Errorf("Text(%q): %q; want %q", q.s, got, q.want)
		}
	}
	for _, s := range samples() {
		if got, want := hex.Text(s), stdhex.EncodeToString([]byte(s)); got != want {
			t.Fatalf("Text(%.40q): %.80q; want %.80q", s, got, want)
		}
	}
}

// P2.1: small and great digits are read, and no place is told then.
func TestParse(t *testing.T) {
	for _, q := range []struct{ t, want string }{
		{"", ""},
		{"417a", "Az"},
		{"417A", "Az"},
		{"aBCd", "\xab\xcd"},
		{"00", "\x00"},
		{"fF", "\xff"},
		{"0123456789abcdefABCDEF", "\x01\x23\x45\x67\x89\xab\xcd\xef\xab\xcd\xef"},
	} {
		if got, i, e := hex.Parse(q.t); got != q.want || i != 0 || e != api.OK {
			t.Errorf("Parse(%q): %q, %d, %d; want %q", q.t, got, i, e, q.want)
		}
	}
}

// P2.1: the first byte that is no digit is told, ahead of an odd number.
func TestParseErrors(t *testing.T) {
	long := strings.Repeat("5a", 50000)
	for _, q := range []struct {
		t    string
		want int
	}{
		{"4", 1},
		{"417", 3},
		{"g", 0},
		{"4g", 1},
		{"4g7", 1},
		{"41g", 2},
		{"gg", 0},
		{"4gxg", 1},
		{" 41", 0},
		{"41 ", 2},
		{"41 7a", 2},
		{"41\n", 2},
		{"41\n7a\n", 2},
		{"41#", 2},
		{"#41", 0},
		{"41  # 0\n", 2},
		{"0x41", 1},
		{"41\x00", 2},
		{"\xff41", 0},
		{"41\u0661", 2}, // a digit elsewhere
		{"4\uff21", 1},  // a great A elsewhere
		{long + "5", len(long) + 1},
		{long + "-", len(long)},
		{long + "5-", len(long) + 1},
		{"x" + long, 0},
	} {
		if got, i, e := hex.Parse(q.t); got != "" || i != q.want || e != api.ErrSyntax {
			t.Errorf("Parse(%.30q): %.30q, %d, %d; want %d, ErrSyntax", q.t, got, i, e, q.want)
		}
	}
}

// P2.1, P2.2: of all bytes just the 22 digits are some.
func TestEachByteAsDigit(t *testing.T) {
	for c := range 256 {
		s := string([]byte{byte(c)})
		for _, q := range []struct {
			t     string
			place int
		}{{s + "0", 0}, {"0" + s, 1}} {
			want, _ := stdhex.DecodeString(q.t)
			place, wantErr := 0, api.OK
			if !isDigit(byte(c)) {
				want, place, wantErr = nil, q.place, api.ErrSyntax
			}
			if got, i, e := hex.Parse(q.t); got != string(want) || i != place || e != wantErr {
				t.Errorf("Parse(%q): %q, %d, %d; want %q, %d, %d", q.t, got, i, e, want, place, wantErr)
			}
			if got := hex.Load(q.t); got != string(want) {
				t.Errorf("Load(%q): %q; want %q", q.t, got, want)
			}
		}
	}
}

// P2.1: of any text either its bytes, or the place where it is wrong.
func TestParseEachText(t *testing.T) {
	eachText(signs, 5, func(s string) {
		want, place, wantErr := parsed(s)
		if got, i, e := hex.Parse(s); got != want || i != place || e != wantErr {
			t.Fatalf("Parse(%q): %q, %d, %d; want %q, %d, %d", s, got, i, e, want, place, wantErr)
		}
	})
}

func parsed(t string) (string, int, api.Errno) {
	for i := range len(t) {
		if !isDigit(t[i]) {
			return "", i, api.ErrSyntax
		}
	}
	b, err := stdhex.DecodeString(t)
	if err != nil {
		return "", len(t), api.ErrSyntax
	}
	return string(b), 0, api.OK
}

// P2.2: comments and other signs are let be, and a last digit without a second one.
func TestLoad(t *testing.T) {
	for _, q := range []struct{ t, want string }{
		{"", ""},
		{"4", ""},
		{"41", "A"},
		{"417", "A"},
		{"4 1 # 42\n7aF", "Az"},
		{"53 45 45 44 # four bytes, loaded: SEED.", "SEED"},
		{"4x1", "A"},
		{"4\n1", "A"},
		{"4\t\r\n 1", "A"},
		{"4#1\n1", "A"}, // a byte's digits may stand on both sides of a comment
		{"4#1\n#2\n\n#3\n1", "A"},
		{"4#1", ""},
		{"# 41", ""},
		{"#", ""},
		{"##\n##", ""},
		{"#\n41", "A"},
		{"# 41\n42", "B"},
		{"41#42#43\n44", "AD"}, // a second # begins nothing new
		{"# 41\r42\n43", "C"},  // just a line feed ends a comment
		{"41# \x0042\n43", "AC"},
		{"41\r\n42", "AB"},
		{"41#", "A"},
		{"41#\n", "A"},
		{"\n\n", ""},
		{"0x41", "\x04"}, // the 0 is a digit, the x none
		{"//41\n;42", "AB"},
		{"AaFf0", "\xaa\xff"},
		{"41 \xff 42", "AB"},
		{"41\x00\x8042", "AB"},
		{"ghijGHIJ/:@`", ""},
		{"\u0664\u0661", ""},
		{"-4-1", "A"},
		{"\"4\" '#' 1\n2", "B"}, // no sign shields a #
	} {
		if got := hex.Load(q.t); got != q.want {
			t.Errorf("Load(%q): %q; want %q", q.t, got, q.want)
		}
	}
}

// P2.2: the same as line by line, without comments, then digit by digit.
func TestLoadEachText(t *testing.T) {
	eachText(signs, 6, func(s string) {
		if got, want := hex.Load(s), loaded(s); got != want {
			t.Fatalf("Load(%q): %q; want %q", s, got, want)
		}
	})
	for _, s := range samples() {
		if got, want := hex.Load(s), loaded(s); got != want {
			t.Fatalf("Load(%.60q): %.40q; want %.40q", s, got, want)
		}
	}
}

func loaded(t string) string {
	var left []byte
	for _, line := range strings.Split(t, "\n") {
		line, _, _ = strings.Cut(line, "#")
		for i := range len(line) {
			if isDigit(line[i]) {
				left = append(left, line[i])
			}
		}
	}
	b, err := stdhex.DecodeString(string(left[:len(left)/2*2]))
	if err != nil {
		panic(err)
	}
	return string(b)
}

// P2.3: lines of 16 bytes, and one of what is left.
func TestDump(t *testing.T) {
	const line = "30 31 32 33 34 35 36 37 38 39 61 62 63 64 65 66  # "
	for _, q := range []struct{ s, want string }{
		{"", ""},
		{"A", "41  # 0\n"},
		{"Az", "41 7a  # 0\n"},
		{"\x00\xff\x0f", "00 ff 0f  # 0\n"},
		{"0123456789abcde", "30 31 32 33 34 35 36 37 38 39 61 62 63 64 65  # 0\n"},
		{"0123456789abcdef", line + "0\n"},
		{"0123456789abcdefg", line + "0\n67  # 16\n"},
		{"0123456789abcdef0123456789abcdef", line + "0\n" + line + "16\n"},
	} {
		if got := hex.Dump(q.s); got != q.want {
			t.Errorf("Dump(%q): %q; want %q", q.s, got, q.want)
		}
	}
	for _, s := range samples() {
		if got, want := hex.Dump(s), dumped(s); got != want {
			t.Fatalf("Dump of %d bytes: %.200q; want %.200q", len(s), got, want)
		}
	}
}

func dumped(s string) string {
	var out strings.Builder
	for i := range len(s) {
		end := " "
		if i%16 == 15 || i == len(s)-1 {
			end = fmt.Sprintf("  # %d\n", i/16*16)
		}
		fmt.Fprintf(&out, "%02x%s", s[i], end)
	}
	return out.String()
}

// P2.4: texts and dumps are loaded as what they are of, great digits too, and
// a text is parsed as well.
func TestLoadedAsWritten(t *testing.T) {
	for _, s := range samples() {
		text := hex.Text(s)
		for _, u := range []string{text, strings.ToUpper(text), hex.Dump(s), strings.ToUpper(hex.Dump(s))} {
			if got := hex.Load(u); got != s {
				t.Fatalf("%.60q is loaded as %.40q; want %.40q", u, got, s)
			}
		}
		if got, i, e := hex.Parse(text); got != s || i != 0 || e != api.OK {
			t.Fatalf("%.60q is parsed as %.40q, %d, %d; want %.40q", text, got, i, e, s)
		}
	}
}

// P2.4: comments may stand anywhere in a text or a dump.
func TestCommentsPlayNoPart(t *testing.T) {
	s := allBytes()[:40]
	for _, u := range []string{hex.Text(s), hex.Dump(s)} {
		for i := range len(u) + 1 {
			for _, comment := range []string{"#\n", "# 41\n", "# de ad #be ef\n", "# 41\n# 42\n"} {
				if inComment(u[:i]) {
					continue // there its line feed would end the comment that is there
				}
				if got := hex.Load(u[:i] + comment + u[i:]); got != s {
					t.Fatalf("with %q at %d of %q: %q", comment, i, u, got)
				}
			}
		}
		if got := hex.Load(u + "# 41"); got != s {
			t.Errorf("with a comment at the end of %q: %q", u, got)
		}
	}
}

func inComment(t string) bool {
	return strings.LastIndexByte(t, '#') > strings.LastIndexByte(t, '\n')
}
