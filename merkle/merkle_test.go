package merkle_test

import (
	"math"
	"math/rand"
	"slices"
	"strconv"
	"strings"
	"testing"

	"seedcorn/api"
	"seedcorn/digest"
	"seedcorn/merkle"
)

// letter is the leaf that a small letter stands for.
func letter(c byte) api.Digest { return digest.Of(string(rune(c))) }

// tree is what the tree that is written as s, from its place at on, has as
// its root, and the place behind it: (ab) is the Pair of a and b.
func tree(s string, at int) (api.Digest, int) {
	if s[at] != '(' {
		return letter(s[at]), at + 1
	}
	a, at := tree(s, at+1)
	b, at := tree(s, at)
	return digest.Pair(a, b), at + 1
}

// trees are the roots of trees with blanks between them.
func trees(s string) []api.Digest {
	var l []api.Digest
	for _, f := range strings.Fields(s) {
		d, _ := tree(f, 0)
		l = append(l, d)
	}
	return l
}

func letters(n int) []api.Digest {
	var l []api.Digest
	for i := range n {
		l = append(l, letter(byte('a'+i)))
	}
	return l
}

// leaves are n unlike ones.
func leaves(n int) []api.Digest {
	var l []api.Digest
	for i := range n {
		l = append(l, digest.Of("leaf "+strconv.Itoa(i)))
	}
	return l
}

// grown is the root by another way: leaves come one by one, trees that are as
// large are put together at once, the others at last from the end on.
func grown(l []api.Digest) api.Digest {
	if len(l) == 0 {
		return digest.Of("")
	}
	var roots []api.Digest
	for i, d := range l {
		for n := i + 1; n%2 == 0; n /= 2 {
			d = digest.Pair(roots[len(roots)-1], d)
			roots = roots[:len(roots)-1]
		}
		roots = append(roots, d)
	}
	r := roots[len(roots)-1]
	for i := len(roots) - 2; i >= 0; i-- {
		r = digest.Pair(roots[i], r)
	}
	return r
}

// shown is Check by another way, of lists of any length: from the leaf up, by
// the bits of the places of it and of the last one.
func shown(root api.Digest, n, i int, leaf api.Digest, proof []api.Digest) bool {
	if i < 0 || i >= n {
		return false
	}
	last := n - 1
	for _, d := range proof {
		if last == 0 {
			return false
		}
		if i%2 == 1 || i == last {
			leaf = digest.Pair(d, leaf)
			for i%2 == 0 && i > 0 {
				i, last = i/2, last/2
			}
		} else {
			leaf = digest.Pair(leaf, d)
		}
		i, last = i/2, last/2
	}
	return last == 0 && leaf == root
}

// shownOn is CheckOn by another way, of lists of any length: from the last one
// of the first m up.
func shownOn(old api.Digest, m int, root api.Digest, n int, proof []api.Digest) bool {
	if m < 1 || m > n {
		return false
	}
	if m == n {
		return len(proof) == 0 && old == root
	}
	i, last := m-1, n-1
	for i%2 == 1 {
		i, last = i/2, last/2
	}
	if i == 0 { // the first m are a whole half
		proof = append([]api.Digest{old}, proof...)
	}
	if len(proof) == 0 {
		return false
	}
	first, all := proof[0], proof[0]
	for _, d := range proof[1:] {
		if last == 0 {
			return false
		}
		if i%2 == 1 || i == last {
			first, all = digest.Pair(d, first), digest.Pair(d, all)
			for i%2 == 0 && i > 0 {
				i, last = i/2, last/2
			}
		} else {
			all = digest.Pair(all, d)
		}
		i, last = i/2, last/2
	}
	return last == 0 && first == old && all == root
}

// changed are rows that differ from p a little: one less, one more, another
// one, two in the other order.
func changed(p []api.Digest) [][]api.Digest {
	z := letter('z')
	l := [][]api.Digest{
		slices.Insert(slices.Clone(p), 0, z),
		append(slices.Clone(p), z),
		append(slices.Clone(p), api.Digest{}),
	}
	for i := range p {
		l = append(l, slices.Delete(slices.Clone(p), i, i+1))
		q := slices.Clone(p)
		q[i][3] ^= 1
		l = append(l, q, slices.Insert(slices.Clone(p), i, p[i]))
		if i > 0 {
			q = slices.Clone(p)
			q[i-1], q[i] = q[i], q[i-1]
			l = append(l, q)
		}
	}
	return l
}

// lengths are all small ones, those around powers of two, and the greatest.
func lengths() []int {
	l := []int{511, 512, 513, 999, 1000}
	for n := range 35 {
		l = append(l, n)
	}
	return append(l, 63, 64, 65)
}

// P4.1: roots, written out.
func TestRoot(t *testing.T) {
	for n, want := range []string{
		"", "a", "(ab)", "((ab)c)", "((ab)(cd))", "(((ab)(cd))e)", "(((ab)(cd))(ef))", "(((ab)(cd))((ef)g))",
		"(((ab)(cd))((ef)(gh)))", "((((ab)(cd))((ef)(gh)))i)",
	} {
		w := digest.Of("")
		if n > 0 {
			w, _ = tree(want, 0)
		}
		if got := merkle.Root(letters(n)); got != w {
			t.Errorf("Root of %d: %08x; want that of %s", n, got, want)
		}
	}
	if merkle.Root([]api.Digest{}) != digest.Of("") {
		t.Error("the root of an empty list")
	}
}

// P4.1: the same as grown leaf by leaf, of any length; each leaf and its
// place matter.
func TestRootGrown(t *testing.T) {
	seen := map[api.Digest]bool{}
	for _, n := range append(lengths(), 1001, 1023, 1024, 1025, 5000) {
		l := leaves(n)
		got := merkle.Root(l)
		if got != grown(l) {
			t.Errorf("Root of %d: %08x; want %08x", n, got, grown(l))
		}
		if seen[got] {
			t.Errorf("Root of %d is another one's", n)
		}
		seen[got] = true
		for i := 0; i < n && n < 35; i++ {
			l[i][0] ^= 1
			if merkle.Root(l) == got {
				t.Errorf("Root of %d, another one at %d: the same", n, i)
			}
			l[i][0] ^= 1
			if j := (i + 1) % n; n > 1 {
				l[i], l[j] = l[j], l[i]
				if merkle.Root(l) == got {
					t.Errorf("Root of %d, %d and %d exchanged: the same", n, i, j)
				}
				l[i], l[j] = l[j], l[i]
			}
		}
	}
}

// P4.1: proofs that one is in, written out.
func TestProve(t *testing.T) {
	for n, all := range map[int][]string{
		1: {""},
		2: {"b", "a"},
		3: {"b c", "a c", "(ab)"},
		4: {"b (cd)", "a (cd)", "d (ab)", "c (ab)"},
		5: {"b (cd) e", "a (cd) e", "d (ab) e", "c (ab) e", "((ab)(cd))"},
		7: {"b (cd) ((ef)g)", "a (cd) ((ef)g)", "d (ab) ((ef)g)", "c (ab) ((ef)g)",
			"f g ((ab)(cd))", "e g ((ab)(cd))", "(ef) ((ab)(cd))"},
	} {
		for i, want := range all {
			if p, e := merkle.Prove(letters(n), i); e != api.OK || !slices.Equal(p, trees(want)) {
				t.Errorf("Prove(%d of %d): %08x, %d; want %q", i, n, p, e, want)
			}
		}
	}
}

// P4.1: proofs that a list goes on its first ones, written out.
func TestProveOn(t *testing.T) {
	for n, all := range map[int][]string{
		1: {""},
		2: {"b", ""},
		3: {"b c", "c", ""},
		4: {"b (cd)", "(cd)", "c d (ab)", ""},
		5: {"b (cd) e", "(cd) e", "c d (ab) e", "e", ""},
		7: {"b (cd) ((ef)g)", "(cd) ((ef)g)", "c d (ab) ((ef)g)", "((ef)g)",
			"e f g ((ab)(cd))", "(ef) g ((ab)(cd))", ""},
		8: {"b (cd) ((ef)(gh))", "(cd) ((ef)(gh))", "c d (ab) ((ef)(gh))", "((ef)(gh))",
			"e f (gh) ((ab)(cd))", "(ef) (gh) ((ab)(cd))", "g h (ef) ((ab)(cd))", ""},
	} {
		for i, want := range all {
			if p, e := merkle.ProveOn(letters(n), i+1); e != api.OK || !slices.Equal(p, trees(want)) {
				t.Errorf("ProveOn(%d of %d): %08x, %d; want %q", i+1, n, p, e, want)
			}
		}
	}
}

// P4.1: places and numbers that are not there.
func TestProveErrors(t *testing.T) {
	for _, n := range []int{0, 1, 2, 7, 1000, 1001} {
		l := leaves(n)
		for _, i := range []int{-1, n, n + 1, math.MinInt, math.MaxInt, -n - 1} {
			if p, e := merkle.Prove(l, i); e != api.ErrArg || len(p) != 0 {
				t.Errorf("Prove(%d of %d): %08x, %d; want ErrArg", i, n, p, e)
			}
		}
		for _, m := range []int{0, -1, n + 1, n + 2, math.MinInt, math.MaxInt, -n - 1} {
			if p, e := merkle.ProveOn(l, m); e != api.ErrArg || len(p) != 0 {
				t.Errorf("ProveOn(%d of %d): %08x, %d; want ErrArg", m, n, p, e)
			}
		}
	}
}

// P4.1, P4.2: proofs of lists of more than 1000 are made too, but not taken.
func TestLongLists(t *testing.T) {
	for _, n := range []int{1001, 1024, 1025, 3000} {
		l := leaves(n)
		root := merkle.Root(l)
		for _, i := range []int{0, 1, 500, 511, 512, 767, 999, 1000, n - 2, n - 1} {
			p, e := merkle.Prove(l, i)
			if e != api.OK || !shown(root, n, i, l[i], p) {
				t.Errorf("Prove(%d of %d): %d, and no proof", i, n, e)
			}
			if merkle.Check(root, n, i, l[i], p) {
				t.Errorf("Check(%d of %d): true", i, n)
			}
			m := i + 1
			old := merkle.Root(l[:m])
			p, e = merkle.ProveOn(l, m)
			if e != api.OK || !shownOn(old, m, root, n, p) {
				t.Errorf("ProveOn(%d of %d): %d, and no proof", m, n, e)
			}
			if merkle.CheckOn(old, m, root, n, p) {
				t.Errorf("CheckOn(%d of %d): true", m, n)
			}
		}
	}
}

// P4.2, P4.4: what Prove makes is taken, and nothing that differs a little.
func TestCheck(t *testing.T) {
	z := letter('z')
	for _, n := range lengths() {
		l := leaves(n)
		root := merkle.Root(l)
		for i := range l {
			p, e := merkle.Prove(l, i)
			if e != api.OK || !merkle.Check(root, n, i, l[i], p) {
				t.Fatalf("Check(%d of %d): false", i, n)
			}
			if merkle.Check(z, n, i, l[i], p) || merkle.Check(root, n, i, z, p) || merkle.Check(l[i], n, i, root, p) && n > 1 {
				t.Errorf("Check(%d of %d): true of another root or leaf", i, n)
			}
			if n > 65 && i%8 > 0 { // of long lists some will do
				continue
			}
			for _, q := range changed(p) {
				if merkle.Check(root, n, i, l[i], q) {
					t.Errorf("Check(%d of %d): true of %08x, too", i, n, q)
				}
			}
			for _, j := range []int{i - 1, i + 1, i ^ 1, 0, n - 1} {
				if j != i && merkle.Check(root, n, j, l[i], p) {
					t.Errorf("Check(%d of %d): true at %d, too", i, n, j)
				}
			}
		}
	}
}

// P4.2, P4.4: what ProveOn makes is taken, and nothing that differs a little.
func TestCheckOn(t *testing.T) {
	z := letter('z')
	for _, n := range lengths() {
		l := leaves(n)
		root := merkle.Root(l)
		for m := 1; m <= n; m++ {
			old := merkle.Root(l[:m])
			p, e := merkle.ProveOn(l, m)
			if e != api.OK || !merkle.CheckOn(old, m, root, n, p) {
				t.Fatalf("CheckOn(%d of %d): false", m, n)
			}
			if merkle.CheckOn(z, m, root, n, p) || merkle.CheckOn(old, m, z, n, p) || m < n && merkle.CheckOn(root, m, old, n, p) {
				t.Errorf("CheckOn(%d of %d): true of other roots", m, n)
			}
			if n > 65 && m%8 > 0 {
				continue
			}
			for _, q := range changed(p) {
				if merkle.CheckOn(old, m, root, n, q) {
					t.Errorf("CheckOn(%d of %d): true of %08x, too", m, n, q)
				}
			}
		}
	}
}

// P4.2: numbers that may not be, with what would hold otherwise.
func TestCheckNumbers(t *testing.T) {
	a, b := letter('a'), letter('b')
	ab := digest.Pair(a, b)
	for _, q := range []struct{ n, i int }{
		{0, 0}, {0, -1}, {0, 1}, {-1, 0}, {-1, -1}, {-1, -2}, {math.MinInt, 0}, {math.MinInt, math.MinInt},
		{1, 1}, {1, -1}, {1, math.MinInt}, {1, math.MaxInt}, {1001, 0}, {1001, 1000}, {math.MaxInt, 0}, {math.MaxInt, math.MaxInt - 1},
	} {
		if merkle.Check(a, q.n, q.i, a, nil) {
			t.Errorf("Check(%d of %d) of nothing: true", q.i, q.n)
		}
		if q.n != 1 && merkle.CheckOn(a, q.i, a, q.n, nil) {
			t.Errorf("CheckOn(%d of %d) of nothing: true", q.i, q.n)
		}
		if merkle.Check(ab, q.n, q.i, a, []api.Digest{b}) || merkle.CheckOn(a, q.i, ab, q.n, []api.Digest{b}) {
			t.Errorf("Check(%d of %d) of one: true", q.i, q.n)
		}
	}
	for _, m := range []int{0, -1, 2, 1001, math.MinInt, math.MaxInt} {
		if merkle.CheckOn(a, m, a, 1, nil) || m != 2 && merkle.CheckOn(ab, m, ab, 2, nil) {
			t.Errorf("CheckOn(%d): true", m)
		}
	}
	for _, n := range []int{1001, 1002, 1 << 20, math.MaxInt} {
		if merkle.CheckOn(a, n, a, n, nil) {
			t.Errorf("CheckOn(%d of %d): true", n, n)
		}
	}
	if !merkle.CheckOn(a, 1000, a, 1000, nil) || !merkle.CheckOn(a, 1, a, 1, nil) || !merkle.Check(a, 1, 0, a, nil) {
		t.Error("numbers that may be: false")
	}
}

// P4.2: rows that are far too long, or of nothing.
func TestProofsOfOtherLengths(t *testing.T) {
	l := leaves(9)
	root, long := merkle.Root(l), make([]api.Digest, 100000)
	for i := range l {
		for _, p := range [][]api.Digest{nil, {}, long, long[:1], long[:4], long[:5]} {
			if merkle.Check(root, 9, i, l[i], p) {
				t.Errorf("Check(%d of 9) of %d zeros: true", i, len(p))
			}
			if merkle.CheckOn(l[0], i+1, root, 9, p) {
				t.Errorf("CheckOn(%d of 9) of %d zeros: true", i+1, len(p))
			}
		}
	}
}

// P4.2: what is missing in a proof doesn't count as zeros.
func TestTooFew(t *testing.T) {
	a, none := letter('a'), api.Digest{}
	for _, n := range []int{2, 3, 4, 7, 9} {
		for i := range n {
			for _, leaf := range []api.Digest{a, none} {
				for few := range 7 {
					p := make([]api.Digest, few)
					root := none
					for range few + 1 {
						if merkle.Check(root, n, i, leaf, p) != shown(root, n, i, leaf, p) {
							t.Errorf("Check(%d of %d) of %d zeros: another answer", i, n, few)
						}
						if merkle.CheckOn(none, i+1, root, n, p) != shownOn(none, i+1, root, n, p) {
							t.Errorf("CheckOn(%d of %d) of %d zeros: another answer", i+1, n, few)
						}
						root = digest.Pair(root, none)
					}
				}
			}
		}
	}
	if merkle.Check(none, 2, 0, a, nil) || merkle.Check(none, 2, 1, a, nil) || merkle.Check(digest.Pair(none, a), 3, 0, a, []api.Digest{a}) {
		t.Error("Check of too few: true")
	}
	if merkle.CheckOn(none, 1, none, 2, nil) || merkle.CheckOn(none, 3, none, 5, nil) || merkle.CheckOn(none, 3, digest.Pair(none, a), 5, []api.Digest{a}) {
		t.Error("CheckOn of too few: true")
	}
}

// P4.2: the same as the way up by bits tells, of any proof for any numbers.
func TestCheckReckoned(t *testing.T) {
	r := rand.New(rand.NewSource(4))
	held := 0
	for range 20000 {
		n := 1 + r.Intn(20)
		l := leaves(n)
		i, m := r.Intn(n), 1+r.Intn(n)
		p, _ := merkle.Prove(l, i)
		q, _ := merkle.ProveOn(l, m)
		root, old, leaf := merkle.Root(l), merkle.Root(l[:m]), l[i]
		if r.Intn(2) == 0 {
			n, i, m = n+r.Intn(3)-1, i+r.Intn(3)-1, m+r.Intn(3)-1
		}
		if r.Intn(4) == 0 {
			p, q = q, p
		}
		want, wantOn := shown(root, n, i, leaf, p), shownOn(old, m, root, n, q)
		if got := merkle.Check(root, n, i, leaf, p); got != want {
			t.Fatalf("Check(%d of %d), %d in the proof: %t; want %t", i, n, len(p), got, want)
		}
		if got := merkle.CheckOn(old, m, root, n, q); got != wantOn {
			t.Fatalf("CheckOn(%d of %d), %d in the proof: %t; want %t", m, n, len(q), got, wantOn)
		}
		if want && wantOn {
			held++
		}
	}
	if held < 5000 || held > 15000 {
		t.Errorf("%d of 20000 held: no test of both", held)
	}
}

// meeting are lists made by two words at a place at which they have one root.
func meeting(t *testing.T, list func(w uint32) []api.Digest, more func(a, b []api.Digest) bool) (a, b []api.Digest) {
	t.Helper()
	seen := map[api.Digest][]uint32{}
	for w := range uint32(1 << 21) {
		l := list(w)
		r := merkle.Root(l)
		for _, v := range seen[r] {
			if k := list(v); more == nil || more(k, l) {
				return k, l
			}
		}
		seen[r] = append(seen[r], w)
	}
	t.Fatal("no two lists that meet")
	return nil, nil
}

// with is l with the word w ahead in its i-th one.
func with(l []api.Digest, i int, w uint32) []api.Digest {
	l = slices.Clone(l)
	l[i][0] = w
	return l
}

// sides is what Clash is to find, by another way: of all parts of the tree,
// the whole one first, a first half ahead of the other, the first one with
// unlike pairs, and one root.
func sides(a, b []api.Digest) (p, q [2]api.Digest, ok bool) {
	if len(a) < 2 {
		return p, q, false
	}
	k := 1
	for 2*k < len(a) {
		k *= 2
	}
	p = [2]api.Digest{grown(a[:k]), grown(a[k:])}
	q = [2]api.Digest{grown(b[:k]), grown(b[k:])}
	if p != q && digest.Pair(p[0], p[1]) == digest.Pair(q[0], q[1]) {
		return p, q, true
	}
	if p, q, ok = sides(a[:k], b[:k]); ok {
		return p, q, true
	}
	return sides(a[k:], b[k:])
}

// checkClash holds Clash of a and b, and of b and a, against p and q.
func checkClash(t *testing.T, what string, a, b []api.Digest, p, q [2]api.Digest) {
	t.Helper()
	if p == q || digest.Pair(p[0], p[1]) != digest.Pair(q[0], q[1]) {
		t.Fatalf("%s: the pairs %08x and %08x don't meet", what, p, q)
	}
	if x, y, ok := merkle.Clash(a, b); !ok || x != p || y != q {
		t.Errorf("%s: %08x, %08x, %t; want %08x, %08x", what, x, y, ok, p, q)
	}
	if x, y, ok := merkle.Clash(b, a); !ok || x != q || y != p {
		t.Errorf("%s, the other way round: %08x, %08x, %t; want %08x, %08x", what, x, y, ok, q, p)
	}
	if x, y, ok := sides(a, b); !ok || x != p || y != q {
		t.Errorf("%s: the test itself tells %08x, %08x, %t", what, x, y, ok)
	}
}

func join(l ...[]api.Digest) []api.Digest { return slices.Concat(l...) }

func both(l []api.Digest) [2]api.Digest { return [2]api.Digest(l) }

// P4.3: pairs that truly have one digest, at each place of a tree where they
// may be.
func TestClash(t *testing.T) {
	l := leaves(9)
	a, b := meeting(t, func(w uint32) []api.Digest { return with(l[:2], 0, w) }, nil) // unlike first ones
	c, d := meeting(t, func(w uint32) []api.Digest { return with(l[2:4], 1, w) }, nil)
	e, f := meeting(t, func(w uint32) []api.Digest { // both unlike
		return with(with(l[4:6], 0, w), 1, w)
	}, nil)
	checkClash(t, "the first ones", a, b, both(a), both(b))
	checkClash(t, "the second ones", c, d, both(c), both(d))
	checkClash(t, "both", e, f, both(e), both(f))
	checkClash(t, "ahead of one", join(a, l[:1]), join(b, l[:1]), both(a), both(b))
	checkClash(t, "the first half", join(c, l[:2]), join(d, l[:2]), both(c), both(d))
	checkClash(t, "the other half", join(l[:2], c), join(l[:2], d), both(c), both(d))
	checkClash(t, "both halves", join(a, c), join(b, d), both(a), both(b))
	checkClash(t, "both halves, crossed", join(d, a), join(c, b), both(d), both(c))
	checkClash(t, "deep", join(l[:4], e, c, l[:1]), join(l[:4], e, d, l[:1]), both(c), both(d))
	checkClash(t, "deep, in the others", join(l[:8], e), join(l[:8], f), both(e), both(f))
	checkClash(t, "in three places", join(l[:2], a, e, c), join(l[:2], b, f, d), both(a), both(b))
}

// P4.3: the pair that is nearest to the root, of several; and pairs of roots.
func TestClashAbove(t *testing.T) {
	l := leaves(9)
	a, b := meeting(t, func(w uint32) []api.Digest { return with(l[:2], 0, w) }, nil)
	four := merkle.Root(join(a, l[2:4]))
	x, y := meeting(t, func(w uint32) []api.Digest { return with([]api.Digest{four, l[8]}, 1, w) }, nil)
	checkClash(t, "the last one", join(a, l[2:4], x[1:]), join(a, l[2:4], y[1:]), both(x), both(y))
	checkClash(t, "above another one", join(a, l[2:4], x[1:]), join(b, l[2:4], y[1:]), both(x), both(y))

	unlike := func(a, b []api.Digest) bool { return merkle.Root(a[:2]) != merkle.Root(b[:2]) }
	g, h := meeting(t, func(w uint32) []api.Digest { return with(l[:4], 1, w) }, unlike)
	p := [2]api.Digest{merkle.Root(g[:2]), merkle.Root(g[2:])}
	q := [2]api.Digest{merkle.Root(h[:2]), merkle.Root(h[2:])}
	checkClash(t, "pairs of roots", g, h, p, q)
	checkClash(t, "pairs of roots, deep", join(l[:4], g, l[:1]), join(l[:4], h, l[:1]), p, q)
	unlike = func(a, b []api.Digest) bool { return merkle.Root(a[2:4]) != merkle.Root(b[2:4]) }
	g, h = meeting(t, func(w uint32) []api.Digest { return with(l[:6], 3, w) }, unlike)
	p, q, ok := sides(g, h)
	if !ok {
		t.Fatal("none found")
	}
	checkClash(t, "of six", g, h, p, q)
}

// P4.3: lists that don't clash.
func TestNoClash(t *testing.T) {
	l := leaves(5)
	a, b := meeting(t, func(w uint32) []api.Digest { return with(l[:2], 0, w) }, nil)
	other := slices.Clone(l)
	other[3] = letter('z')
	for _, q := range []struct {
		what string
		a, b []api.Digest
	}{
		{"none of both", nil, nil},
		{"nil and empty", nil, []api.Digest{}},
		{"one", l[:1], slices.Clone(l[:1])},
		{"alike", l, slices.Clone(l)},
		{"alike ones that would clash with others", a, slices.Clone(a)},
		{"unlike ones", l[:1], l[1:2]},
		{"unlike in one", l, other},
		{"in another order", l[:2], []api.Digest{l[1], l[0]}},
		{"pairs that clash, and another end", join(a, l[2:3]), join(b, l[3:4])},
		{"a list and its root", l, []api.Digest{merkle.Root(l)}},
		{"unlike lists, and one root", a, []api.Digest{merkle.Root(b)}},
		{"nothing and its root", nil, []api.Digest{digest.Of("")}},
		{"halves and their roots", l, []api.Digest{merkle.Root(l[:4]), l[4]}},
		{"a longer one", l, l[:4]},
	} {
		for range 2 {
			if x, y, ok := merkle.Clash(q.a, q.b); ok || x != [2]api.Digest{} || y != [2]api.Digest{} {
				t.Errorf("%s: %08x, %08x, %t", q.what, x, y, ok)
			}
			q.a, q.b = q.b, q.a
		}
	}
}

// way are the pairs of a proof from the leaf up: of a list's own, and of any
// that is shown.
func way(n, i int, leaf api.Digest, proof []api.Digest) [][2]api.Digest {
	if n == 1 {
		return nil
	}
	k := 1
	for 2*k < n {
		k *= 2
	}
	side := proof[len(proof)-1]
	proof = proof[:len(proof)-1]
	if i < k {
		l := way(k, i, leaf, proof)
		return append(l, [2]api.Digest{top(l, leaf), side})
	}
	l := way(n-k, i-k, leaf, proof)
	return append(l, [2]api.Digest{side, top(l, leaf)})
}

func top(l [][2]api.Digest, leaf api.Digest) api.Digest {
	if len(l) == 0 {
		return leaf
	}
	p := l[len(l)-1]
	return digest.Pair(p[0], p[1])
}

// P4.4: what is shown of a list, and isn't so, shows unlike pairs with one
// Pair on the way.
func TestLiesShowPairs(t *testing.T) {
	l := leaves(6)
	unlike := func(a, b []api.Digest) bool { return merkle.Root(a[:2]) != merkle.Root(b[:2]) }
	a, b := meeting(t, func(w uint32) []api.Digest { return with(l, 1, w) }, nil)
	c, d := meeting(t, func(w uint32) []api.Digest { return with(l, 0, w) }, unlike)
	for _, q := range [][2][]api.Digest{{a, b}, {c, d}} {
		root, lie := merkle.Root(q[0]), q[1]
		lies := 0
		for i := range lie {
			p, _ := merkle.Prove(lie, i)
			if !merkle.Check(root, 6, i, lie[i], p) {
				t.Errorf("Check(%d): false", i)
			}
			if lie[i] == q[0][i] {
				continue
			}
			lies++
			honest, _ := merkle.Prove(q[0], i)
			x, y := way(6, i, q[0][i], honest), way(6, i, lie[i], p)
			if !slices.ContainsFunc(x, func(v [2]api.Digest) bool {
				return slices.ContainsFunc(y, func(w [2]api.Digest) bool {
					return v != w && digest.Pair(v[0], v[1]) == digest.Pair(w[0], w[1])
				})
			}) {
				t.Errorf("%d: a lie, and no unlike pairs with one Pair", i)
			}
		}
		if lies == 0 {
			t.Error("no lie")
		}
		for m := 1; m <= 6; m++ {
			p, _ := merkle.ProveOn(lie, m)
			if !merkle.CheckOn(merkle.Root(lie[:m]), m, root, 6, p) {
				t.Errorf("CheckOn(%d): false", m)
			}
		}
	}
	if merkle.Root(c[:2]) == merkle.Root(d[:2]) {
		t.Error("the first two have one root")
	}
}

// Rule 5: what is handed in stays as it is, its spare room too.
func TestHandedInStays(t *testing.T) {
	room := leaves(40)
	was := slices.Clone(room)
	l := room[:7]
	root := merkle.Root(l)
	for i := range l {
		p, _ := merkle.Prove(l, i)
		p = slices.Grow(p, 5)
		spare := p[:cap(p)]
		kept := slices.Clone(spare)
		merkle.Check(root, 7, i, l[i], p)
		merkle.CheckOn(root, i+1, root, 7, p)
		if !slices.Equal(spare, kept) {
			t.Errorf("the proof of %d has changed", i)
		}
		merkle.ProveOn(l, i+1)
	}
	merkle.Clash(l, room[7:14])
	if !slices.Equal(room, was) {
		t.Error("the list has changed")
	}
}

func FuzzCheck(f *testing.F) {
	f.Add(7, 4, 3, []byte{1, 2, 3})
	f.Add(1000, 0, 1000, []byte{})
	f.Add(1001, 3, 8, []byte{0})
	f.Add(-1, 0, 0, []byte{9, 9, 9, 9})
	f.Fuzz(func(t *testing.T, n, i, m int, proof []byte) {
		l := leaves(16)
		var p []api.Digest
		for _, c := range proof {
			p = append(p, l[c%16])
		}
		if merkle.Check(l[0], n, i, l[1], p) || merkle.CheckOn(l[0], m, l[1], n, p) {
			t.Errorf("Check(%d of %d), CheckOn(%d of %d) of leaves: true", i, n, m, n)
		}
		if n < 1 || n > 16 || i < 0 || i >= n || m < 1 || m > n {
			return
		}
		a, _ := merkle.Prove(l[:n], i)
		b, _ := merkle.ProveOn(l[:n], m)
		root, old := merkle.Root(l[:n]), merkle.Root(l[:m])
		if !shown(root, n, i, l[i], a) || !shownOn(old, m, root, n, b) {
			t.Errorf("Prove(%d of %d), ProveOn(%d of %d): shown by neither", i, n, m, n)
		}
		if merkle.Check(root, n, i, l[i], p) != shown(root, n, i, l[i], p) || merkle.CheckOn(old, m, root, n, p) != shownOn(old, m, root, n, p) {
			t.Errorf("%d of %d, %d of %d: another answer", i, n, m, n)
		}
	})
}
