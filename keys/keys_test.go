package keys_test

import (
	"fmt"
	"math"
	"math/rand"
	"reflect"
	"slices"
	"testing"

	"seedcorn/api"
	"seedcorn/digest"
	"seedcorn/keys"
	"seedcorn/merkle"
	"seedcorn/onetime"
)

const (
	top    = math.MaxUint32
	farOff = math.MaxInt/2 + 1 // its low bits are those of 0
)

// tooHigh are heights that no tree has.
var tooHigh = []int{-1, 5, 6, 31, 32, 63, 64, -64, farOff, farOff + 2, math.MinInt, math.MinInt + 3, math.MaxInt}

// anyDigests are n from all over, the same at each run.
func anyDigests(from int64, n int) []api.Digest {
	r := rand.New(rand.NewSource(from))
	var l []api.Digest
	for range n {
		l = append(l, api.Digest{r.Uint32(), r.Uint32(), r.Uint32(), r.Uint32()})
	}
	return l
}

// seedOf is the seed of the key i, its 21 bytes written one by one.
func seedOf(seed api.Digest, i int) api.Digest {
	s := []byte{'k'}
	for _, w := range []uint32{seed[0], seed[1], seed[2], seed[3], uint32(i)} {
		s = append(s, byte(w&255), byte(w>>8&255), byte(w>>16&255), byte(w>>24&255))
	}
	return digest.Of(string(s))
}

// levels are those of the tree over l, the lowest one first; l has as many as
// a power of two.
func levels(l []api.Digest) [][]api.Digest {
	all := [][]api.Digest{l}
	for len(l) > 1 {
		var up []api.Digest
		for i := 0; i < len(l); i += 2 {
			up = append(up, digest.Pair(l[i], l[i+1]))
		}
		l = up
		all = append(all, l)
	}
	return all
}

// pathOf goes up from the leaf i: at each level the one beside.
func pathOf(all [][]api.Digest, i int) []api.Digest {
	var p []api.Digest
	for _, l := range all[:len(all)-1] {
		p = append(p, l[i^1])
		i /= 2
	}
	return p
}

// treeOf is the levels of the tree of that seed and height.
func treeOf(seed api.Digest, height int) [][]api.Digest {
	var l []api.Digest
	for i := range 1 << height {
		l = append(l, onetime.Public(seedOf(seed, i)))
	}
	return levels(l)
}

func rootOf(all [][]api.Digest) api.Digest {
	return all[len(all)-1][0]
}

// pub is the public key of a tree that there is.
func pub(t *testing.T, seed api.Digest, height int) api.Digest {
	t.Helper()
	d, e := keys.Public(seed, height)
	if e != api.OK {
		t.Fatalf("Public(%08x, %d): error %d", seed, height, e)
	}
	return d
}

// sign is the signature by a key that there is.
func sign(t *testing.T, seed api.Digest, height, i int, msg api.Digest) api.Signature {
	t.Helper()
	s, e := keys.Sign(seed, height, i, msg)
	if e != api.OK {
		t.Fatalf("Sign(%08x, %d, %d, %08x): error %d", seed, height, i, msg, e)
	}
	return s
}

// none tells if s has nothing.
func none(s api.Signature) bool {
	return s.Index == 0 && len(s.One) == 0 && len(s.Path) == 0
}

// with is l with the value d at i.
func with(l []api.Digest, i int, d api.Digest) []api.Digest {
	l = slices.Clone(l)
	l[i] = d
	return l
}

// other is d with the bit b turned.
func other(d api.Digest, b int) api.Digest {
	d[b/32%4] ^= 1 << (b % 32)
	return d
}

// P6.1: public keys reckoned elsewhere.
func TestPublic(t *testing.T) {
	for _, q := range []struct {
		seed api.Digest
		want [5]string // by height
	}{
		{api.Digest{}, [5]string{
			"61b6333e71aeef5a875cf02c5316578c", "e40bde42d3978484ad9077cd05dada65", "13bd0d8e7626e8e7ab8f64d8513ce4f9",
			"0d002963ac512a66644db1764ac0c915", "52290763113555966c202c628e43fb03"}},
		{api.Digest{1, 2, 3, 4}, [5]string{
			"2af74cd3bb347f65ed949297fb3ca150", "d5ec835d34b03e72c84e4cf20966def7", "89da6bb05642f7cd2ac20a67f58d39a1",
			"660f365f29ae1e1ca6c6f95024eab7ba", "5eb75ab0860dda4ce543da651c159efc"}},
		{api.Digest{5, 6, 7, 8}, [5]string{
			"4a8eac0461e3e11478ac824f84ecfeb3", "9ab48bb942c3ba4c06d7662e4c39500f", "0ea5bda45a73271baceb4a208713962f",
			"9743c83ebcf1a88e34b9dd5182f41aca", "8c0e15b7de788104ecad640e56847835"}},
		{api.Digest{top, top, top, top}, [5]string{
			"662115a08e13f90ad57162a628dbc194", "5165b431025b50138c3537fb53ec982d", "bcd9c61e920df25c079fb036ba83ed8a",
			"4a87c5a9547d174082fe7ac317b5fa59", "3e1323c827a381dd886c3fd3c2697cd1"}},
	} {
		for height, want := range q.want {
			if got := digest.Text(pub(t, q.seed, height)); got != want {
				t.Errorf("Public(%08x, %d): %s; want %s", q.seed, height, got, want)
			}
		}
	}
}

// P6.1: the root over the keys of as many seeds, from the lowest level up; the
// example: of height 0 the one key itself.
func TestPublicReckoned(t *testing.T) {
	for _, seed := range append(anyDigests(1, 4), api.Digest{0x01020304, 0xf0000001, 0x80, 0xff00}) {
		if got, want := pub(t, seed, 0), onetime.Public(seedOf(seed, 0)); got != want {
			t.Errorf("Public(%08x, 0): %08x; want %08x", seed, got, want)
		}
		for height := range 5 {
			if got, want := pub(t, seed, height), rootOf(treeOf(seed, height)); got != want {
				t.Errorf("Public(%08x, %d): %08x; want %08x", seed, height, got, want)
			}
		}
	}
}

// P6.1, P6.3: no tree is below 0, nor above 4; beside the error all is zero,
// and an index, or a next one, that may not be either comes behind it.
func TestTooHigh(t *testing.T) {
	seed, msg := api.Digest{1, 2, 3, 4}, api.Digest{5, 6, 7, 8}
	for _, height := range tooHigh {
		if d, e := keys.Public(seed, height); e != api.ErrRange || d != (api.Digest{}) {
			t.Errorf("Public of %d: %08x, %d; want 0, ErrRange", height, d, e)
		}
		if s, e := keys.New(seed, height); e != api.ErrRange || s != (api.Signer{}) {
			t.Errorf("New of %d: %v, %d; want a zero one, ErrRange", height, s, e)
		}
		for _, i := range []int{0, 1, -1, 16, math.MinInt, math.MaxInt} {
			if s, e := keys.Sign(seed, height, i, msg); e != api.ErrRange || !none(s) {
				t.Errorf("Sign of %d, %d: %v, %d; want a zero one, ErrRange", height, i, s, e)
			}
			n, s, e := keys.Use(api.Signer{Seed: seed, Height: height, Next: i}, msg)
			if e != api.ErrRange || n != (api.Signer{}) || !none(s) {
				t.Errorf("Use of %d, %d: %v, %v, %d; want zero ones, ErrRange", height, i, n, s, e)
			}
		}
	}
}

// P6.1: a signature reckoned elsewhere: that of the key 11 of 16.
func TestSign(t *testing.T) {
	seed := api.Digest{1, 2, 3, 255}
	s := sign(t, seed, 4, 11, api.Digest{0x12345678, 0x9abcdef0, 0, top})
	one := []string{
		"873c520a98a4c6d5c3618af71ebdd1e8", "bff13693ab30a501113e84aea7de32a1", "1263c0908d0acd1387d13c1a31843265",
		"c2b1a05f418fb9f82d50b98a2f36ae0f", "f0adb744e68eebde2a56b531af384b7b", "8701cca979e47fd73ec9df2cab829ebc",
		"14d85787dd771e96fa5f41921bbb978a", "6a04fd2094e819633a8dd81e9f4634a7", "e6735de69ce402312a2650edbcd5a8ff",
		"1eeddd21464d01def90a7d9a191331d4", "c9d0beaa05fea48c834d6910dbb79ee7", "55a233688ddb2a12db4664fb926e35cd",
		"7a4fc97160d2ed76e1fd09935bafb361", "4a40e0219a8a07e1c11382a2be873bcf", "dad8edafdf7b4b52e8b395c29ea0448c",
		"d2e570f2ac489f331ebe489f99f03abd", "d01b5699ac489f331ebe489f99f03abd", "9d96718dac489f331ebe489f99f03abd",
		"c2f44bb9ac489f331ebe489f99f03abd", "d1dc4748ac489f331ebe489f99f03abd", "03fc3f16ac489f331ebe489f99f03abd",
		"5d2f6beeac489f331ebe489f99f03abd", "842a01b9ac489f331ebe489f99f03abd", "3ca1b664ac489f331ebe489f99f03abd",
		"3b538edfdf7b4b52e8b395c29ea0448c", "9952fa2edf7b4b52e8b395c29ea0448c", "8fc22f9fdf7b4b52e8b395c29ea0448c",
		"258edab5df7b4b52e8b395c29ea0448c", "5330a7dfdf7b4b52e8b395c29ea0448c", "34b3d2e9df7b4b52e8b395c29ea0448c",
		"ceaa7586df7b4b52e8b395c29ea0448c", "a111c34adf7b4b52e8b395c29ea0448c", "c08f2669ac489f331ebe489f99f03abd",
		"d328d58adf7b4b52e8b395c29ea0448c", "bfcca21dac489f331ebe489f99f03abd",
	}
	path := []string{
		"a858cfd7bb347f65ed94929755575d6e", "25f2eb4834b03e72c84e4cf2c17f9c14",
		"52ce3c175642f7cd2ac20a67afa8820e", "660f365f29ae1e1ca6c6f9504574b897",
	}
	if s.Index != 11 || !slices.Equal(texts(s.One), one) || !slices.Equal(texts(s.Path), path) {
		t.Errorf("Sign(%08x, 4, 11, ..): %d, %s, %s", seed, s.Index, texts(s.One), texts(s.Path))
	}
	if got := digest.Text(pub(t, seed, 4)); got != "5eb75ab0860dda4ce543da65bb901c35" {
		t.Errorf("its public key is %s", got)
	}
}

func texts(l []api.Digest) []string {
	var all []string
	for _, d := range l {
		all = append(all, digest.Text(d))
	}
	return all
}

// P6.1: each key of each height: its number, its one-time signature, and what
// stands beside on the way up.
func TestSignReckoned(t *testing.T) {
	for n, seed := range append(anyDigests(2, 2), api.Digest{}) {
		for height := range 5 {
			all := treeOf(seed, height)
			for i, msg := range anyDigests(int64(n), 1<<height) {
				s := sign(t, seed, height, i, msg)
				want := api.Signature{Index: i, One: onetime.Sign(seedOf(seed, i), msg), Path: pathOf(all, i)}
				if s.Index != i || !slices.Equal(s.One, want.One) || !slices.Equal(s.Path, want.Path) {
					t.Errorf("Sign(%08x, %d, %d, %08x): %v; want %v", seed, height, i, msg, s, want)
				}
			}
		}
	}
}

// P6.1: a tree has no key below 0, nor from 2^height on.
func TestSignByNoKey(t *testing.T) {
	for height := range 5 {
		n := 1 << height
		for _, i := range []int{-1, -n, n, n + 1, 16, 17, farOff, math.MinInt, math.MaxInt} {
			if s, e := keys.Sign(api.Digest{1, 2}, height, i, api.Digest{3}); e != api.ErrArg || !none(s) {
				t.Errorf("Sign of %d, %d: %v, %d; want a zero one, ErrArg", height, i, s, e)
			}
		}
	}
}

// refused says that none of these signatures holds.
func refused(t *testing.T, pub, msg api.Digest, why string, l ...api.Signature) {
	t.Helper()
	for k, s := range l {
		if keys.Check(pub, msg, s) {
			t.Errorf("%s, the one at %d: it holds by %08x of %08x", why, k, pub, msg)
		}
	}
}

// P6.2: what was signed holds by no other key, and of no other message.
func TestCheckOfOthers(t *testing.T) {
	seed, msg := api.Digest{5, 6, 7, 8}, api.Digest{0x12345678, 0x9abcdef0, 0, top}
	for height := range 5 {
		k := pub(t, seed, height)
		s := sign(t, seed, height, 1<<height-1, msg)
		if !keys.Check(k, msg, s) {
			t.Fatalf("height %d: the signature doesn't hold", height)
		}
		for b := range 128 {
			refused(t, other(k, b), msg, "another public key", s)
			refused(t, k, other(msg, b), "another message", s)
		}
		for more := range 5 {
			if more != height {
				refused(t, pub(t, seed, more), msg, "a tree of another height", s)
			}
		}
		refused(t, pub(t, api.Digest{5, 6, 7, 9}, height), msg, "another seed", s)
		refused(t, api.Digest{}, msg, "no public key", s, api.Signature{})
		refused(t, k, msg, "no signature", api.Signature{}, api.Signature{Index: s.Index, Path: s.Path})
	}
}

// P6.2: nor with another number, below 0 and above all of them too.
func TestCheckOfOtherNumbers(t *testing.T) {
	seed, msg := api.Digest{9}, api.Digest{1, 2, 3}
	for height := range 5 {
		n, k := 1<<height, pub(t, seed, height)
		for i := range n {
			s := sign(t, seed, height, i, msg)
			for j := -2 * n; j < 3*n; j++ {
				s.Index = j
				if got := keys.Check(k, msg, s); got != (i == j) {
					t.Errorf("height %d, the key %d as %d: %t", height, i, j, got)
				}
			}
			for _, j := range []int{i + farOff, i - farOff, i + math.MinInt, math.MinInt, math.MaxInt, ^i} {
				s.Index = j
				refused(t, k, msg, fmt.Sprint("the key ", i, " as ", j), s)
			}
		}
	}
}

// P6.2: nor with another one-time signature, with one value more or less neither.
func TestCheckOfOtherValues(t *testing.T) {
	seed, msg := api.Digest{9, 8}, api.Digest{0x01234567, 2, 3}
	k := pub(t, seed, 3)
	s := sign(t, seed, 3, 5, msg)
	for i := range s.One {
		bad := s
		bad.One = with(s.One, i, other(s.One[i], 7*i))
		refused(t, k, msg, fmt.Sprint("the value at ", i), bad)
	}
	double := slices.Concat(s.One, s.One)
	for _, n := range []int{0, 1, 34, 36, 70} {
		bad := s
		bad.One = double[:n]
		refused(t, k, msg, fmt.Sprint(n, " values"), bad)
		refused(t, s.Path[0], msg, fmt.Sprint(n, " values"), api.Signature{One: double[:n]})
		refused(t, api.Digest{}, msg, fmt.Sprint(n, " values"), api.Signature{One: double[:n]})
	}
	refused(t, k, msg, "that by the key beside", api.Signature{Index: 5, One: sign(t, seed, 3, 4, msg).One, Path: s.Path})
	refused(t, k, msg, "that by the seed itself", api.Signature{Index: 5, One: onetime.Sign(seed, msg), Path: s.Path})
}

// P6.2: nor with another path: each of its digests, their order, their number.
func TestCheckOfOtherPaths(t *testing.T) {
	seed, msg := api.Digest{9, 8, 7}, api.Digest{0x01234567, 2, 3}
	for height := range 5 {
		k := pub(t, seed, height)
		for i := range 1 << height {
			s := sign(t, seed, height, i, msg)
			var bad []api.Signature
			for at := range s.Path {
				bad = append(bad,
					api.Signature{Index: i, One: s.One, Path: with(s.Path, at, other(s.Path[at], 11*i+at))},
					api.Signature{Index: i, One: s.One, Path: slices.Delete(slices.Clone(s.Path), at, at+1)},
					api.Signature{Index: i, One: s.One, Path: s.Path[:at]})
				if at > 0 {
					bad = append(bad, api.Signature{Index: i, One: s.One, Path: with(with(s.Path, at, s.Path[0]), 0, s.Path[at])})
				}
			}
			for _, more := range []api.Digest{{}, k, {1}} {
				bad = append(bad,
					api.Signature{Index: i, One: s.One, Path: append(slices.Clone(s.Path), more)},
					api.Signature{Index: i, One: s.One, Path: append([]api.Digest{more}, s.Path...)})
			}
			refused(t, k, msg, fmt.Sprintf("height %d, the key %d", height, i), bad...)
		}
	}
}

// P6.2: keys of no tree's seed count as well, and of a height up to 4: a whole
// tree that is higher has no signatures that hold.
func TestCheckOfAnyTree(t *testing.T) {
	msg := api.Digest{4, 3, 2, 1}
	seeds := anyDigests(3, 128)
	var leaves []api.Digest
	for _, s := range seeds {
		leaves = append(leaves, onetime.Public(s))
	}
	for height := range 8 {
		all := levels(leaves[:1<<height])
		for i := range 1 << height {
			s := api.Signature{Index: i, One: onetime.Sign(seeds[i], msg), Path: pathOf(all, i)}
			if !merkle.Check(rootOf(all), 1<<height, i, leaves[i], s.Path) {
				t.Fatalf("height %d: the path of %d is none", height, i)
			}
			if got := keys.Check(rootOf(all), msg, s); got != (height <= 4) {
				t.Errorf("height %d, the key %d: %t", height, i, got)
			}
		}
	}
	for _, n := range []int{64, 65, 1000, 1 << 16} {
		refused(t, leaves[0], msg, "a long path", api.Signature{One: onetime.Sign(seeds[0], msg), Path: make([]api.Digest, n)})
	}
}

// P6.2: the public key doesn't tell how high its tree is, so each part of a tree
// that goes down to its keys is one, by the root of that part.
func TestCheckOfParts(t *testing.T) {
	seed, msg := api.Digest{3, 1, 4, 1}, api.Digest{5, 9, 2, 6}
	all := treeOf(seed, 4)
	for i := range 16 {
		s := sign(t, seed, 4, i, msg)
		for height := range 5 {
			part := api.Signature{Index: i % (1 << height), One: s.One, Path: s.Path[:height]}
			if !keys.Check(all[height][i>>height], msg, part) {
				t.Errorf("the key %d doesn't hold by what is %d above", i, height)
			}
		}
	}
}

// P6.3: a new signer has used nothing.
func TestNew(t *testing.T) {
	for _, seed := range append(anyDigests(4, 3), api.Digest{}) {
		for height := range 5 {
			want := api.Signer{Seed: seed, Height: height, Next: 0}
			if n, e := keys.New(seed, height); e != api.OK || n != want {
				t.Errorf("New(%08x, %d): %v, %d; want %v", seed, height, n, e, want)
			}
		}
	}
}

// P6.3, P6.4: a signer signs by each key of its tree, in order, once, and all
// that holds; then it is used up.
func TestUse(t *testing.T) {
	for n, seed := range append(anyDigests(5, 2), api.Digest{}) {
		for height := range 5 {
			k := pub(t, seed, height)
			s, _ := keys.New(seed, height)
			for i, msg := range anyDigests(int64(10*n+height), 1<<height) {
				next, by, e := keys.Use(s, msg)
				if e != api.OK || next != (api.Signer{Seed: seed, Height: height, Next: i + 1}) {
					t.Fatalf("Use(%v, %08x): %v, error %d", s, msg, next, e)
				}
				if !reflect.DeepEqual(by, sign(t, seed, height, i, msg)) || !keys.Check(k, msg, by) {
					t.Errorf("Use(%v, %08x): %v is not the signature of %d", s, msg, by, i)
				}
				s = next
			}
			for range 2 { // it stays so
				next, by, e := keys.Use(s, api.Digest{1})
				if e != api.ErrUsed || next != (api.Signer{}) || !none(by) {
					t.Errorf("Use(%v, ..): %v, %v, %d; want zero ones, ErrUsed", s, next, by, e)
				}
			}
		}
	}
}

// P6.3: a signer that stands anywhere: in its tree, or below or above it.
func TestUseOfAny(t *testing.T) {
	seed, msg := api.Digest{6, 6, 6}, api.Digest{7}
	for height := range 5 {
		n := 1 << height
		for next := -n; next < 2*n+2; next++ {
			s := api.Signer{Seed: seed, Height: height, Next: next}
			after, by, e := keys.Use(s, msg)
			if next < 0 || next >= n {
				if e != api.ErrUsed || after != (api.Signer{}) || !none(by) {
					t.Errorf("Use(%v, ..): %v, %v, %d; want zero ones, ErrUsed", s, after, by, e)
				}
				continue
			}
			s.Next++
			if e != api.OK || after != s || !reflect.DeepEqual(by, sign(t, seed, height, next, msg)) {
				t.Errorf("Use of %d, %d: %v, %v, %d", height, next, after, by, e)
			}
		}
		for _, next := range []int{math.MinInt, math.MaxInt, farOff, math.MaxInt - 1, math.MinInt + 1} {
			after, by, e := keys.Use(api.Signer{Seed: seed, Height: height, Next: next}, msg)
			if e != api.ErrUsed || after != (api.Signer{}) || !none(by) {
				t.Errorf("Use of %d, %d: %v, %v, %d; want zero ones, ErrUsed", height, next, after, by, e)
			}
		}
	}
}

// leafOf is the one-time key that s reaches.
func leafOf(t *testing.T, msg api.Digest, s api.Signature) api.Digest {
	t.Helper()
	k, ok := onetime.Reach(msg, s.One)
	if !ok {
		t.Fatalf("%d values reach no key", len(s.One))
	}
	return k
}

// shown goes up both paths at once and tells the first two unlike pairs with
// one digest.
func shown(i int, a, b api.Digest, p, q []api.Digest) ([2]api.Digest, [2]api.Digest, bool) {
	for at := range p {
		x, y := [2]api.Digest{a, p[at]}, [2]api.Digest{b, q[at]}
		if i>>at&1 == 1 {
			x[0], x[1] = x[1], x[0]
			y[0], y[1] = y[1], y[0]
		}
		a, b = digest.Pair(x[0], x[1]), digest.Pair(y[0], y[1])
		if x != y && a == b {
			return x, y, true
		}
	}
	return [2]api.Digest{}, [2]api.Digest{}, false
}

// P6.4: two signatures by one public key, with one number and paths as long:
// by one tree both have one one-time key.
func TestTwoOfOneNumber(t *testing.T) {
	seed := api.Digest{2, 7, 1, 8}
	l := anyDigests(6, 2)
	for height := range 5 {
		k := pub(t, seed, height)
		for i := range 1 << height {
			s, u := sign(t, seed, height, i, l[0]), sign(t, seed, height, i, l[1])
			if !keys.Check(k, l[0], s) || !keys.Check(k, l[1], u) {
				t.Fatalf("height %d: a signature of %d doesn't hold", height, i)
			}
			if leafOf(t, l[0], s) != leafOf(t, l[1], u) {
				t.Errorf("height %d: the two of %d have unlike keys", height, i)
			}
			if at, _, ok := onetime.Ahead(l[0], s.One, l[1], u.One); !ok {
				t.Errorf("height %d: the two of %d give nothing away, but %d", height, i, at)
			}
			if i > 0 {
				before := sign(t, seed, height, i-1, l[1])
				if leafOf(t, l[0], s) == leafOf(t, l[1], before) {
					t.Errorf("height %d: %d and %d have one key", height, i-1, i)
				}
			}
		}
	}
}

// meet finds what stands beside a and b that both pairs have one digest, a and
// b standing first, or last, in theirs. It is found word by word: no word of a
// pair's digest hangs on the words beside it.
func meet(t *testing.T, a, b api.Digest, first bool) (p, q api.Digest) {
	t.Helper()
	pair := func(a, beside api.Digest) api.Digest {
		if first {
			return digest.Pair(a, beside)
		}
		return digest.Pair(beside, a)
	}
	var by [4]map[uint32]uint32
	for j := range by {
		by[j] = map[uint32]uint32{}
	}
	left := 4
	var found [4]bool
	for n := range uint32(1 << 20) {
		x, y := pair(a, api.Digest{n, n, n, n}), pair(b, api.Digest{n, n, n, n})
		for j := range by {
			if found[j] {
				continue
			}
			by[j][x[j]] = n
			if m, ok := by[j][y[j]]; ok {
				p[j], q[j], found[j] = m, n, true
				left--
			}
		}
		if left == 0 {
			return p, q
		}
	}
	t.Fatal("no two meet")
	return p, q
}

// P6.4: two that hold by one public key, with one number and unlike one-time
// keys: their paths show two unlike pairs with one digest.
func TestTwoOfUnlikeKeys(t *testing.T) {
	l := anyDigests(7, 6)
	seedA, seedB, msgA, msgB := l[0], l[1], l[2], l[3]
	a, b := onetime.Public(seedA), onetime.Public(seedB)
	for i := range 2 {
		p, q := meet(t, a, b, i == 0)
		s := api.Signature{Index: i, One: onetime.Sign(seedA, msgA), Path: []api.Digest{p}}
		u := api.Signature{Index: i, One: onetime.Sign(seedB, msgB), Path: []api.Digest{q}}
		root := digest.Pair(a, p)
		if i == 1 {
			root = digest.Pair(p, a)
		}
		for _, up := range l[3:] { // the same above both, up to height 4
			if !keys.Check(root, msgA, s) || !keys.Check(root, msgB, u) {
				t.Fatalf("the two of %d with %d above don't both hold", i, len(s.Path))
			}
			x, y, ok := shown(i, a, b, s.Path, u.Path)
			if !ok || x == y || digest.Pair(x[0], x[1]) != digest.Pair(y[0], y[1]) {
				t.Errorf("the two of %d with %d above show nothing: %08x %08x", i, len(s.Path), x, y)
			}
			refused(t, root, msgB, "the one path by the other key", api.Signature{Index: i, One: u.One, Path: s.Path})
			root = digest.Pair(root, up)
			s.Path, u.Path = append(s.Path, up), append(u.Path, up)
		}
	}
}

// Rules 5 and 6: what is handed in stays as it is, its spare room too, and
// what comes out is the same again, whatever was done to an earlier answer.
func TestLeavesAndKeepsNothing(t *testing.T) {
	seed, msg := api.Digest{1, 2, 3}, api.Digest{4, 5, 6}
	k := pub(t, seed, 3)
	s := sign(t, seed, 3, 6, msg)
	one := append(slices.Clone(s.One), anyDigests(8, 9)...)
	path := append(slices.Clone(s.Path), anyDigests(9, 9)...)
	wasOne, wasPath := slices.Clone(one), slices.Clone(path)
	if !keys.Check(k, msg, api.Signature{Index: 6, One: one[:35], Path: path[:3]}) {
		t.Error("it doesn't hold")
	}
	if !slices.Equal(one, wasOne) || !slices.Equal(path, wasPath) {
		t.Error("a signature that was handed in became another one")
	}
	clear(s.One)
	clear(s.Path)
	again := sign(t, seed, 3, 6, msg)
	if !slices.Equal(again.One, wasOne[:35]) || !slices.Equal(again.Path, wasPath[:3]) || pub(t, seed, 3) != k {
		t.Error("an answer became another one")
	}
	n, _ := keys.New(seed, 3)
	_, x, _ := keys.Use(n, msg)
	_, y, _ := keys.Use(n, msg)
	if !reflect.DeepEqual(x, y) || n != (api.Signer{Seed: seed, Height: 3}) {
		t.Error("a signer that was handed in became another one")
	}
}
