package proof_test

import (
	"math"
	"slices"
	"testing"

	"scrinium/api"
	"scrinium/leaf"
	"scrinium/path"
	"scrinium/proof"
)

// P12.1: the chapter's examples.
func TestExamplesOfLeaves(t *testing.T) {
	a, b, c := leaf.Leaf("a"), leaf.Leaf("b"), leaf.Leaf("c")
	root := leaf.Root([]api.Sum{a, b, c})
	isBool(t, "Right", proof.Right(root, c, 2, 3, []api.Sum{leaf.Node(a, b)}), true)
	isBool(t, "Right with two", proof.Right(root, c, 2, 3, []api.Sum{a, b}), false)
	isBool(t, "Right with two", proof.Right(root, c, 2, 3, []api.Sum{leaf.Node(a, b), leaf.Node(a, b)}), false)
}

// P12.1: five leaves, one by one, each hash in its place.
func TestFoldsOfFive(t *testing.T) {
	h := made(4)
	x, p, q, r := h[0], h[1], h[2], h[3]
	three := []api.Sum{p, q, r}
	isFold(t, x, 0, 5, three, above(above(above(x, p), q), r))
	isFold(t, x, 1, 5, three, above(above(above(p, x), q), r))
	isFold(t, x, 2, 5, three, above(above(q, above(x, p)), r))
	isFold(t, x, 3, 5, three, above(above(q, above(p, x)), r))
	isFold(t, x, 4, 5, three[:1], above(p, x))
}

// P12.1: paths and roots that were made elsewhere.
func TestKnownPaths(t *testing.T) {
	root := hashes("5dc9da79a70659a9ad559cb701ded9a2ab9d823aad2f4960cfe370eff4604328")[0]
	isFold(t, eight()[0], 0, 8, hashes(
		"96a296d224f285c67bee93c30f8a309157f0daa35dc5b87e410b78630a09cfc7",
		"5f083f0a1a33ca076a95279832580db3e0ef4584bdff1f54c8a360f50de3031e",
		"6b47aaf29ee3c2af9af889bc1fb9254dabd31177f16232dd6aab035ca39bf6e4"), root)
	isFold(t, eight()[5], 5, 8, hashes(
		"bc1a0643b12e4d2d7c77918f44e0f4f79a838b6cf9ec5b5c283e1f4d88599e6b",
		"ca854ea128ed050b41b35ffc1b87b8eb2bde461e9e3b5596ece6b9d5975a0ae0",
		"d37ee418976dd95753c1c73862b9398fa2a2cf9b4ff0fdfe8b30cd95209614b7"), root)
	isFold(t, eight()[2], 2, 3,
		hashes("fac54203e7cc696cf0dfcb42c92a1d9dbaf70ad9e621f4bd8d98662f00e3c125"),
		hashes("aeb6bcfe274b70a14fb067a5e5578264db0fa9b51af5e0ba159158f329e06e77")[0])
	isFold(t, eight()[1], 1, 5, hashes(
		"6e340b9cffb37a989ca544e6bb780a2c78901d3fb33738768511a30617afa01d",
		"5f083f0a1a33ca076a95279832580db3e0ef4584bdff1f54c8a360f50de3031e",
		"bc1a0643b12e4d2d7c77918f44e0f4f79a838b6cf9ec5b5c283e1f4d88599e6b"),
		hashes("4e3bbb1f7b478dcfe71fb631631519a3bca12c9aefca1612bfce4c13a86264d4")[0])
}

// P12.1: of one leaf the path has no hash, and comes to the leaf, whatever it is; also to no bit, and that is right.
func TestFoldOfOne(t *testing.T) {
	for _, x := range append(looks(), leaf.Empty(), leaf.Leaf("")) {
		isFold(t, x, 0, 1, nil, x)
		isFold(t, x, 0, 1, []api.Sum{}, x)
		isNoFold(t, x, 0, 1, []api.Sum{x})
		isNoFold(t, x, 0, 1, []api.Sum{{}})
	}
}

// P12.1: against RFC 9162's way, with hashes that no tree has, of each leaf and with each length.
func TestFoldsGoUp(t *testing.T) {
	h := made(12)
	for n := 1; n < 140; n++ {
		for m := range n {
			for long := range h {
				x, p := h[long], h[:long]
				if want, ok := folded(x, m, n, p); ok {
					isFold(t, x, m, n, p, want)
				} else {
					isNoFold(t, x, m, n, p)
				}
			}
		}
	}
}

// P12.1: as many hashes as path.Long tells, no more and no fewer.
func TestPathsOfOtherLengths(t *testing.T) {
	h := made(60)
	for _, n := range append(sizes(), 1, 2, 3, 4, 5, 6, 7, 8, 9, most-1, most) {
		for _, m := range some(n) {
			for long := range h {
				got, ok := proof.Fold(h[0], m, n, h[:long])
				isBool(t, called("Fold", m, n), ok, long == path.Long(m, n))
				isBool(t, called("Fold", m, n)+": no bit", got == api.Sum{}, !ok)
				if !ok {
					isNoFold(t, h[0], m, n, h[:long])
				}
			}
		}
	}
}

// P12.1, P1: of a place that there isn't, with no hashes and with some.
func TestNoPath(t *testing.T) {
	h := made(43)
	for _, long := range []int{0, 1, 2, 3, 39, 40, 41, 43} {
		for n := 1; n < 12; n++ {
			for _, m := range append(beyond(n), n) {
				isNoFold(t, h[0], m, n, h[:long])
			}
		}
		for _, n := range []int{0, -1, -2, -5, -most, math.MinInt, math.MinInt + 1} {
			for _, m := range append(beyond(5), 0, 1, n-1, n, n+1) {
				isNoFold(t, h[0], m, n, h[:long])
			}
		}
		for _, n := range []int{most + 1, most + 2, 2 * most, 1 << 50, 1 << 62, math.MaxInt - 1, math.MaxInt} {
			for _, m := range []int{0, 1, 2, most - 1, most, most + 1, n - 1, n, -1, math.MinInt} {
				isNoFold(t, h[0], m, n, h[:long])
			}
		}
	}
}

// P12.1: up to 2^40 leaves.
func TestFoldsOfGreatNumbers(t *testing.T) {
	h := made(41)
	for _, n := range greatSizes() {
		for _, m := range append(some(n), 0x5555555555%n, 0xaaaaaaaaaa%n, 0x123456789a%n) {
			p := h[1 : 1+path.Long(m, n)]
			want, ok := folded(h[0], m, n, p)
			if !ok {
				t.Fatalf("%s: %d hashes are too many or too few", called("Fold", m, n), len(p))
			}
			isFold(t, h[0], m, n, p, want)
		}
	}
}

// P12.1: leaves and hashes may be any, and alike.
func TestFoldsOfAllLooks(t *testing.T) {
	l := looks()
	for n := 1; n < 20; n++ {
		for m := range n {
			for i, x := range l[:7] {
				p := l[i%4 : i%4+path.Long(m, n)]
				want, _ := folded(x, m, n, p)
				isFold(t, x, m, n, p, want)
				same := slices.Repeat([]api.Sum{x}, path.Long(m, n))
				want, _ = folded(x, m, n, same)
				isFold(t, x, m, n, same, want)
			}
		}
	}
}

// P12.1: right is one root alone: no bit of it may be another one, and none of the leaf or of the path.
func TestEachBitCounts(t *testing.T) {
	x, p := made(4)[0], made(4)[1:]
	root, ok := folded(x, 3, 5, p)
	isBool(t, "folded", ok, true)
	for bit := range 256 {
		isBool(t, "Right of another root", proof.Right(unlike(root, bit), x, 3, 5, p), false)
		isBool(t, "Right of another leaf", proof.Right(root, unlike(x, bit), 3, 5, p), false)
		for i := range p {
			q := slices.Clone(p)
			q[i] = unlike(q[i], bit)
			isBool(t, "Right of another path", proof.Right(root, x, 3, 5, q), false)
		}
	}
	isBool(t, "Right", proof.Right(root, x, 3, 5, p), true)
}

// P12.1: a path is right of one place alone, and of those numbers alone with which it turns as often, and likewise.
func TestPlacesCount(t *testing.T) {
	x, h := made(8)[7], made(7)
	for n := 1; n < 40; n++ {
		for m := range n {
			p := h[:path.Long(m, n)]
			root, _ := proof.Fold(x, m, n, p)
			for i := range n + 3 {
				isBool(t, called("Right at another place", i, n), proof.Right(root, x, i, n, p), i == m)
			}
		}
	}
	p := h[:3]
	root, _ := proof.Fold(x, 0, 5, p)
	isBool(t, "Right of 0, 6", proof.Right(root, x, 0, 6, p), true)
	isBool(t, "Right of 0, 8", proof.Right(root, x, 0, 8, p), true)
	isBool(t, "Right of 0, 4", proof.Right(root, x, 0, 4, p), false)
	isBool(t, "Right of 0, 9", proof.Right(root, x, 0, 9, p), false)
}

// P12.1, R5: a path is never too long to be answered.
func TestLongPath(t *testing.T) {
	p := make([]api.Sum, 1<<20)
	for _, m := range []int{0, 1, 5, most - 1} {
		isNoFold(t, api.Sum{1}, m, most, p)
		isNoFold(t, api.Sum{1}, m, 6, p)
	}
}

// R3, R4: a path that is handed in stays as it is, what is behind it too; asked again it comes to the same.
func TestFoldLeavesWhatItIsHanded(t *testing.T) {
	for n := 1; n < 30; n++ {
		for m := range n {
			h := made(9)
			p := h[2 : 2+path.Long(m, n)]
			x := h[0]
			want, _ := folded(x, m, n, p)
			isFold(t, x, m, n, p, want)
			isFold(t, x, m, n, slices.Clip(p), want)
			if x != made(1)[0] || !slices.Equal(h, made(9)) {
				t.Fatalf("%s changed what it was handed", called("Fold", m, n))
			}
			clear(h)
			isFold(t, made(1)[0], m, n, made(9)[2:2+len(p)], want)
		}
	}
}

// P12.1, P1: whatever the numbers and the hashes are.
func FuzzFolds(f *testing.F) {
	f.Add(0, 1, "")
	f.Add(2, 5, "abc")
	f.Add(4, 5, "a")
	f.Add(most-1, most, "the quick brown fox jumps over the lazy d")
	f.Add(math.MinInt, math.MaxInt, "abc")
	f.Fuzz(func(t *testing.T, m, n int, s string) {
		h := make([]api.Sum, len(s))
		for i := range h {
			h[i] = api.Sum{0: s[i], 31: s[len(s)-1-i]}
		}
		isFolded := func(m, n int, p []api.Sum) {
			if want, ok := folded(api.Sum{5: 1}, m, n, p); ok {
				isFold(t, api.Sum{5: 1}, m, n, p, want)
			} else {
				isNoFold(t, api.Sum{5: 1}, m, n, p)
			}
		}
		isFolded(m, n, h)
		n = int(uint(n)%most) + 1
		m = int(uint(m) % uint(n))
		isFolded(m, n, h)
		isFolded(m, n, append(h, made(41)...)[:path.Long(m, n)])
	})
}
