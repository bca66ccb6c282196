package onetime_test

import (
	"fmt"
	"math"
	"math/rand"
	"slices"
	"strconv"
	"testing"

	"seedcorn/api"
	"seedcorn/digest"
	"seedcorn/onetime"
)

const top = math.MaxUint32

// from is the digest with that text.
func from(t *testing.T, text string) api.Digest {
	t.Helper()
	d, e := digest.Parse(text)
	if e != api.OK {
		t.Fatalf("%s is no digest's text", text)
	}
	return d
}

// anyDigests are n from all over, the same at each run.
func anyDigests(from int64, n int) []api.Digest {
	r := rand.New(rand.NewSource(from))
	var l []api.Digest
	for range n {
		l = append(l, api.Digest{r.Uint32(), r.Uint32(), r.Uint32(), r.Uint32()})
	}
	return l
}

// messages are those at the edges, those with one digit alone, and some from
// all over.
func messages() []api.Digest {
	l := []api.Digest{{}, {top, top, top, top}, {1}, {3: 1}, {1 << 31}, {0x12345678, 0x9abcdef0, 0, top}}
	for place := range 32 {
		l = append(l, alone(place, uint32(1+place%15)))
	}
	return append(l, anyDigests(1, 200)...)
}

// alone is the message whose digit at place is v, all others 0.
func alone(place int, v uint32) api.Digest {
	var d api.Digest
	d[place/8] = v << (28 - 4*(place%8))
	return d
}

// numbers says Steps by texts: those of the message, and of the sum.
func numbers(msg api.Digest) []int {
	text := fmt.Sprintf("%08x%08x%08x%08x", msg[0], msg[1], msg[2], msg[3])
	sum := 0
	for _, c := range text {
		n, _ := strconv.ParseInt(string(c), 16, 0)
		sum += 15 - int(n)
	}
	var l []int
	for _, c := range text + fmt.Sprintf("%03x", sum) {
		n, _ := strconv.ParseInt(string(c), 16, 0)
		l = append(l, int(n))
	}
	return l
}

// along is the value n steps behind x.
func along(x api.Digest, n int) api.Digest {
	for ; n > 0; n-- {
		x = digest.Pair(x, api.Digest{0, 0, 0, 1})
	}
	return x
}

// chain is all 16 values of a chain of that seed's key.
func chain(seed api.Digest, i uint32) [16]api.Digest {
	var l [16]api.Digest
	for n := range l {
		l[n] = along(digest.Pair(seed, api.Digest{i, 0, 0, 0}), n)
	}
	return l
}

// folded is the public key of ends.
func folded(ends []api.Digest) api.Digest {
	k := api.Digest{35, 0, 0, 0}
	for _, e := range ends {
		k = digest.Pair(k, e)
	}
	return k
}

// counted is a signature that no key made.
func counted() api.Sig {
	var s api.Sig
	for i := range uint32(35) {
		s = append(s, api.Digest{i + 1, 2 * i, 0, top - i})
	}
	return s
}

// with is s with the value d at i.
func with(s api.Sig, i int, d api.Digest) api.Sig {
	s = slices.Clone(s)
	s[i] = d
	return s
}

// resized are rows of any length but 35: of s, and of more behind it.
func resized(s api.Sig) []api.Sig {
	more := append(slices.Clone(s), s...)
	return []api.Sig{nil, {}, more[:1], more[:32], more[:34], more[:36], more}
}

// P5.1: the digits of the message's text, in order, and three of the sum.
func TestSteps(t *testing.T) {
	noughts := make([]int, 29)
	for _, q := range []struct {
		msg  api.Digest
		want []int
	}{
		{api.Digest{}, append([]int{0, 0, 0}, append(noughts, 1, 14, 0)...)},
		{api.Digest{top, top, top, top}, append(slices.Repeat([]int{15}, 32), 0, 0, 0)},
		{api.Digest{1 << 28}, append([]int{1, 0, 0}, append(noughts, 1, 13, 15)...)},
		{api.Digest{0x12345678, 0x9abcdef0, 0, top}, []int{
			1, 2, 3, 4, 5, 6, 7, 8, 9, 10, 11, 12, 13, 14, 15, 0,
			0, 0, 0, 0, 0, 0, 0, 0, 15, 15, 15, 15, 15, 15, 15, 15, 0, 15, 0}},
		{api.Digest{0xffffff0f, top, top, top}, []int{
			15, 15, 15, 15, 15, 15, 0, 15, 15, 15, 15, 15, 15, 15, 15, 15,
			15, 15, 15, 15, 15, 15, 15, 15, 15, 15, 15, 15, 15, 15, 15, 15, 0, 0, 15}},
	} {
		if got := onetime.Steps(q.msg); !slices.Equal(got, q.want) {
			t.Errorf("Steps(%08x): %d; want %d", q.msg, got, q.want)
		}
	}
}

// P5.1: each digit at each place alone, and whole messages, as their texts say.
func TestStepsReckoned(t *testing.T) {
	for place := range 32 {
		for v := range uint32(16) {
			l := onetime.Steps(alone(place, v))
			if len(l) != 35 || l[place] != int(v) || 256*l[32]+16*l[33]+l[34] != 480-int(v) {
				t.Fatalf("the digit %d at %d: %d", v, place, l)
			}
		}
	}
	for _, m := range messages() {
		if got, want := onetime.Steps(m), numbers(m); !slices.Equal(got, want) {
			t.Fatalf("Steps(%08x): %d; want %d", m, got, want)
		}
	}
}

// P5.1: public keys reckoned elsewhere.
func TestPublic(t *testing.T) {
	for _, q := range []struct {
		seed api.Digest
		want string
	}{
		{api.Digest{}, "ff34db615a370351064424767027cc81"},
		{api.Digest{5, 6}, "5f518ce79fd42ee5064424767027cc81"},
		{api.Digest{1, 2, 3, 255}, "61192a1ee3011f177fc3d2fc129e219e"},
		{api.Digest{top, top, top, top}, "a9b5b305797e3e7a383ce01c2c354e4a"},
		{api.Digest{3: 1 << 31}, "ff34db615a3703510644247606872c0f"},
	} {
		if got := digest.Text(onetime.Public(q.seed)); got != q.want {
			t.Errorf("Public(%08x): %s; want %s", q.seed, got, q.want)
		}
	}
}

// P5.1: the key of 35 ends, each 15 steps behind its own beginning.
func TestPublicReckoned(t *testing.T) {
	for _, seed := range anyDigests(2, 10) {
		var ends []api.Digest
		for i := range uint32(35) {
			ends = append(ends, chain(seed, i)[15])
		}
		if got, want := onetime.Public(seed), folded(ends); got != want {
			t.Errorf("Public(%08x): %08x; want %08x", seed, got, want)
		}
	}
}

// P5.1: a signature reckoned elsewhere.
func TestSign(t *testing.T) {
	s := onetime.Sign(api.Digest{1, 2, 3, 255}, api.Digest{0x12345678, 0x9abcdef0, 0, top})
	want := []string{
		"1b9ac5147ece8a1faedd531cfc8f596e", "c4944f522b43b5d9804b35f87923c909", "7374b08d7a1e3ae3c73ee6aacbe3fbd3",
		"f5b94ed6f698008f2043aa3b8a2408e9", "110443a1582e8a5901fe6dc97fcc9f05", "881c6dea90c4995ba35469ab6731eda4",
		"2daed7d995b21a22528f9ec313844ce8", "10b63977aabe8055a40fbed63ca09207", "e171a0c934894c5309231e87b601a5ae",
		"c7baf79d07f92cb11a61d242c2f566c0", "3571c24cb286ca77c2c7998bea9cc2b3", "281f8c7bda8855bf7c92f8653be1e730",
		"c1c0edfb6bba856ec470c7803f1ba61d", "52464f99ed068cf432969e1cd9e6b5e3", "1af478f9b5ea1115d85b1ccacd7c1b87",
		"59ab6e093aac58da1766b6b63b3d668a", "2c321dc53aac58da1766b6b63b3d668a", "315213db3aac58da1766b6b63b3d668a",
		"61d1409f3aac58da1766b6b63b3d668a", "9e5454b53aac58da1766b6b63b3d668a", "0c09d0ee3aac58da1766b6b63b3d668a",
		"483582213aac58da1766b6b63b3d668a", "85020e683aac58da1766b6b63b3d668a", "8562b8e43aac58da1766b6b63b3d668a",
		"18036ecfb5ea1115d85b1ccacd7c1b87", "6a5d7e3cb5ea1115d85b1ccacd7c1b87", "fa75ed96b5ea1115d85b1ccacd7c1b87",
		"6e6368d9b5ea1115d85b1ccacd7c1b87", "4780e511b5ea1115d85b1ccacd7c1b87", "40ac4bc5b5ea1115d85b1ccacd7c1b87",
		"1f47179fb5ea1115d85b1ccacd7c1b87", "7376e2e8b5ea1115d85b1ccacd7c1b87", "005ce7e73aac58da1766b6b63b3d668a",
		"f7184809b5ea1115d85b1ccacd7c1b87", "3be26f5b3aac58da1766b6b63b3d668a",
	}
	if len(s) != len(want) {
		t.Fatalf("%d values; want %d", len(s), len(want))
	}
	for i := range want {
		if got := digest.Text(s[i]); got != want[i] {
			t.Errorf("the chain %d: %s; want %s", i, got, want[i])
		}
	}
}

// P5.1: of each chain the value as many steps on as the message says, from none to all 15.
func TestSignReckoned(t *testing.T) {
	for _, seed := range append(anyDigests(3, 2), api.Digest{}) {
		var chains [35][16]api.Digest
		for i := range chains {
			chains[i] = chain(seed, uint32(i))
		}
		for _, m := range messages() {
			s := onetime.Sign(seed, m)
			if len(s) != 35 {
				t.Fatalf("Sign(%08x, %08x) has %d values", seed, m, len(s))
			}
			for i, n := range numbers(m) {
				if s[i] != chains[i][n] {
					t.Fatalf("Sign(%08x, %08x): at %d not %d steps on", seed, m, i, n)
				}
			}
		}
	}
}

// P5.2: public keys reckoned elsewhere, of what a key made and of anything.
func TestReach(t *testing.T) {
	m := api.Digest{0x12345678, 0x9abcdef0, 0, top}
	by := onetime.Sign(api.Digest{1, 2, 3, 255}, m)
	for _, q := range []struct {
		msg  api.Digest
		s    api.Sig
		want string
	}{
		{m, by, "61192a1ee3011f177fc3d2fc129e219e"},
		{api.Digest{0x12345678, 0x9abcdef0, 0, top - 1}, by, "2e4dfa5222cd5f073a7c8910ca4b6435"},
		{api.Digest{}, make(api.Sig, 35), "470f0908e71377c9b4db85d52b9635be"},
		{api.Digest{top, top, top, top}, make(api.Sig, 35), "84d93b173613f3cbba6e39e08aa57b60"},
		{api.Digest{0x12345678, 0, 0, 15}, counted(), "22e846eba845ab1440c0a2a59b15a20f"},
	} {
		k, ok := onetime.Reach(q.msg, q.s)
		if !ok || digest.Text(k) != q.want {
			t.Errorf("Reach(%08x, ..): %08x, %t; want %s", q.msg, k, ok, q.want)
		}
		if !onetime.Check(from(t, q.want), q.msg, q.s) {
			t.Errorf("Check(%s, %08x, ..) is false", q.want, q.msg)
		}
	}
}

// P5.2: from each value on by as many steps as its number leaves of 15.
func TestReachReckoned(t *testing.T) {
	for _, m := range messages() {
		var ends []api.Digest
		for i, n := range numbers(m) {
			ends = append(ends, along(counted()[i], 15-n))
		}
		want := folded(ends)
		if k, ok := onetime.Reach(m, counted()); !ok || k != want {
			t.Fatalf("Reach(%08x, ..): %08x, %t; want %08x", m, k, ok, want)
		}
		if !onetime.Check(want, m, counted()) {
			t.Fatalf("Check(%08x, %08x, ..) is false", want, m)
		}
	}
}

// P5.2: without just 35 values nothing is reached, the key of 0 neither.
func TestReachOfOtherLengths(t *testing.T) {
	seed, m := api.Digest{5, 6}, api.Digest{7, 8, 9, 10}
	k := onetime.Public(seed)
	for _, s := range resized(onetime.Sign(seed, m)) {
		if r, ok := onetime.Reach(m, s); ok || r != (api.Digest{}) {
			t.Errorf("of %d values: %08x, %t; want 0, false", len(s), r, ok)
		}
		for _, pub := range []api.Digest{k, {}, {35}} {
			if onetime.Check(pub, m, s) {
				t.Errorf("%d values hold by %08x", len(s), pub)
			}
		}
	}
}

// P5.2: a signature doesn't hold by another key, nor of another message, nor
// with another value anywhere.
func TestCheckRefuses(t *testing.T) {
	seed, m := api.Digest{5, 6, 7, 8}, api.Digest{0x12345678, 0x9abcdef0, 0, top}
	k, s := onetime.Public(seed), onetime.Sign(seed, m)
	if !onetime.Check(k, m, s) {
		t.Fatal("the signature doesn't hold")
	}
	for b := range 128 {
		var bit api.Digest
		bit[b/32] = 1 << (b % 32)
		other := api.Digest{k[0] ^ bit[0], k[1] ^ bit[1], k[2] ^ bit[2], k[3] ^ bit[3]}
		if onetime.Check(other, m, s) {
			t.Errorf("it holds by %08x", other)
		}
		other = api.Digest{m[0] ^ bit[0], m[1] ^ bit[1], m[2] ^ bit[2], m[3] ^ bit[3]}
		if onetime.Check(k, other, s) {
			t.Errorf("it holds of %08x", other)
		}
	}
	for i := range s {
		for j := range 4 {
			d := s[i]
			d[j]++
			if onetime.Check(k, m, with(s, i, d)) {
				t.Errorf("it holds with another word %d at %d", j, i)
			}
		}
		if onetime.Check(k, m, with(s, i, along(s[i], 1))) {
			t.Errorf("it holds with a value one step on at %d", i)
		}
		if j := (i + 1) % 35; onetime.Check(k, m, with(with(s, i, s[j]), j, s[i])) {
			t.Errorf("it holds with the values of %d and %d in the other order", i, j)
		}
	}
	if onetime.Check(onetime.Public(api.Digest{5, 6, 7, 9}), m, s) {
		t.Error("it holds by another seed's key")
	}
}

// ahead holds Ahead against what is wanted; i below 0: nothing is.
func ahead(t *testing.T, what string, msg api.Digest, s api.Sig, other api.Digest, u api.Sig, i int) {
	t.Helper()
	at, d, ok := 0, api.Digest{}, i >= 0
	if ok {
		at, d = i, u[i]
	}
	if gotAt, got, gotOK := onetime.Ahead(msg, s, other, u); gotAt != at || got != d || gotOK != ok {
		t.Errorf("%s: %d, %08x, %t; want %d, %08x, %t", what, gotAt, got, gotOK, at, d, ok)
	}
}

// P5.3: the first chain at which the other number is less, by one step or by
// all 15, among the message's and among the sum's.
func TestAhead(t *testing.T) {
	seed := api.Digest{5, 6, 7, 8}
	for _, q := range []struct {
		msg, other api.Digest
		i, back    int
	}{
		{api.Digest{1}, api.Digest{1 << 4}, 7, 6},
		{api.Digest{0xf0000000}, api.Digest{}, 0, 33}, // 465 is 1, 13, 1
		{api.Digest{1}, api.Digest{}, 7, 33},          // 479 is 1, 13, 15
		{api.Digest{3: 15}, api.Digest{3: 14}, 31, 34},
		{api.Digest{3: 0xf0000}, api.Digest{}, 27, 33},
		{api.Digest{top, top, top, top}, api.Digest{}, 0, 32},
		{api.Digest{top, top, top, top}, api.Digest{top, top, top, top - 15}, 31, 34},
		{api.Digest{0x98765432}, api.Digest{0x23456789}, 0, 4},
	} {
		s, u := onetime.Sign(seed, q.msg), onetime.Sign(seed, q.other)
		ahead(t, "there", q.msg, s, q.other, u, q.i)
		ahead(t, "back", q.other, u, q.msg, s, q.back)
	}
}

// P5.3: a chain whose values don't lead on so is passed over, whichever it is.
func TestAheadPassesOver(t *testing.T) {
	seed, msg, other := api.Digest{1}, api.Digest{0x30512345, top}, api.Digest{0x10f12312}
	less := []int{0, 6, 7, 8, 9, 10, 11, 12, 13, 14, 15} // not at 2, nor in the sum
	s, u := onetime.Sign(seed, msg), onetime.Sign(seed, other)
	for k, i := range less {
		ahead(t, "the next one", msg, s, other, u, i)
		switch k % 3 { // a step too many apart, one too few, none
		case 0:
			s = with(s, i, along(s[i], 1))
		case 1:
			u = with(u, i, along(u[i], 1))
		case 2:
			s = with(s, i, u[i])
		}
	}
	ahead(t, "none is left", msg, s, other, u, -1)
}

// P5.3: values of no key count too, and where the numbers are alike, or the
// other one is greater, no values do.
func TestAheadOfAnyValues(t *testing.T) {
	msg, other := api.Digest{0x5a005a00}, api.Digest{0x4b004f00} // 5 a 5 a, 4 b 4 f
	u := counted()
	s := slices.Clone(u)
	ahead(t, "all alike", msg, s, other, u, -1)
	ahead(t, "at 4", msg, with(s, 4, along(u[4], 1)), other, u, 4)
	ahead(t, "at 0 and 4", msg, with(with(s, 0, along(u[0], 1)), 4, along(u[4], 1)), other, u, 0)
	ahead(t, "at 1, the other way", msg, with(s, 1, along(u[1], 1)), other, u, -1)
	ahead(t, "at 1, from s to t", msg, s, other, with(u, 1, along(s[1], 1)), -1)
	ahead(t, "at 2, of one number", msg, with(s, 2, along(u[2], 1)), other, u, -1)
	ahead(t, "at 0, by 2", msg, with(s, 0, along(u[0], 2)), other, u, -1)
	// of the sums: 1, 12, 2 and 1, 11, 14
	ahead(t, "at 33", msg, with(s, 33, along(u[33], 1)), other, u, 33)
	ahead(t, "at 34, the other way", msg, with(s, 34, along(u[34], 12)), other, u, -1)
}

// P5.3: none of one message, of keys that are unlike, of lengths that aren't 35.
func TestAheadOfNone(t *testing.T) {
	seed, msg, other := api.Digest{5, 6}, api.Digest{0x98765432, 1, 2, 3}, api.Digest{0x23456789, 3, 2, 1}
	s, u := onetime.Sign(seed, msg), onetime.Sign(seed, other)
	ahead(t, "they are right", msg, s, other, u, 0)
	ahead(t, "one message", msg, s, msg, s, -1)
	ahead(t, "one message, other values", msg, s, msg, u, -1)
	ahead(t, "another key", msg, s, other, onetime.Sign(api.Digest{5, 7, 1, 1}, other), -1)
	ahead(t, "the messages the other way round", other, s, msg, u, -1)
	for _, short := range resized(s) {
		ahead(t, "the first one of "+strconv.Itoa(len(short)), msg, short, other, u, -1)
	}
	for _, short := range resized(u) {
		ahead(t, "the second one of "+strconv.Itoa(len(short)), msg, s, other, short, -1)
	}
	for i, short := range resized(s) {
		ahead(t, "both of "+strconv.Itoa(len(short)), msg, short, other, resized(u)[i], -1)
	}
}

// P5.4: what a key has signed holds by its public key, and by no other one here.
func TestSignedHolds(t *testing.T) {
	seeds := append(anyDigests(4, 3), api.Digest{}, api.Digest{top, top, top, top})
	for i, seed := range seeds {
		k, other := onetime.Public(seed), onetime.Public(seeds[(i+1)%len(seeds)])
		for _, m := range messages() {
			s := onetime.Sign(seed, m)
			r, ok := onetime.Reach(m, s)
			if !ok || r != k || !onetime.Check(k, m, s) {
				t.Fatalf("the key of %08x: the signature of %08x doesn't hold", seed, m)
			}
			if onetime.Check(other, m, s) {
				t.Fatalf("the key of %08x: the signature of %08x holds by another key", seed, m)
			}
		}
	}
}

// firstLess is the first place at which b's number is less than a's; -1: none.
func firstLess(a, b []int) int {
	for i := range a {
		if b[i] < a[i] {
			return i
		}
	}
	return -1
}

// P5.4: of two unlike messages each has a number that is less, and so two
// signatures by one key give away what lies ahead, either way round.
func TestTwoGiveAway(t *testing.T) {
	seed := api.Digest{9, 8, 7, 6}
	l := messages()
	for i, a := range l {
		b := l[(i*7+1)%len(l)]
		near := a
		near[i%4] ^= 1 << (i % 32) // one digit alone differs
		for _, b := range []api.Digest{b, near} {
			if a == b {
				continue
			}
			there, back := firstLess(onetime.Steps(a), onetime.Steps(b)), firstLess(onetime.Steps(b), onetime.Steps(a))
			if there < 0 || back < 0 {
				t.Fatalf("of %08x and %08x one has no number that is less", a, b)
			}
			s, u := onetime.Sign(seed, a), onetime.Sign(seed, b)
			ahead(t, "there", a, s, b, u, there)
			ahead(t, "back", b, u, a, s, back)
		}
	}
}

// P5.4: of two signatures by one key a third one is made without its seed.
func TestTwoMakeAThird(t *testing.T) {
	seed := api.Digest{1, 2, 3, 4}
	a, b, c := api.Digest{0xf0000000}, api.Digest{0x0f000000}, api.Digest{0x87000000}
	s, u := onetime.Sign(seed, a), onetime.Sign(seed, b)
	made := with(with(s, 0, along(u[0], 8)), 1, along(s[1], 7))
	if !onetime.Check(onetime.Public(seed), c, made) {
		t.Error("the third one doesn't hold")
	}
	if onetime.Check(onetime.Public(seed), c, with(s, 1, along(s[1], 7))) {
		t.Error("it holds by one of both alone")
	}
}

// Rules 5 and 6: what is handed in stays as it is, its spare room too, and
// what comes out is the same again, whatever was done to an earlier answer.
func TestLeavesAndKeepsNothing(t *testing.T) {
	seed, msg, other := api.Digest{5, 6}, api.Digest{0x98765432}, api.Digest{0x23456789}
	room := append(onetime.Sign(seed, msg), counted()...)
	more := append(onetime.Sign(seed, other), counted()...)
	was, wasMore := slices.Clone(room), slices.Clone(more)
	s, u := room[:35], more[:35]
	onetime.Reach(msg, s)
	onetime.Check(onetime.Public(seed), msg, s)
	onetime.Ahead(msg, s, other, u)
	if !slices.Equal(room, was) || !slices.Equal(more, wasMore) {
		t.Error("a signature that was handed in became another one")
	}
	clear(onetime.Sign(seed, msg))
	clear(onetime.Steps(msg))
	if !slices.Equal(onetime.Sign(seed, msg), was[:35]) || !slices.Equal(onetime.Steps(msg), numbers(msg)) {
		t.Error("an answer became another one")
	}
}
