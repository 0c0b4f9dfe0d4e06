package twin_test

import (
	"math"
	"slices"
	"testing"

	"scrinium/api"
	"scrinium/leaf"
	"scrinium/path"
	"scrinium/proof"
	"scrinium/sha"
	"scrinium/twin"
)

// P13.1: the chapter's examples.
func TestExamplesOfWays(t *testing.T) {
	x, y := leaf.Leaf("x"), leaf.Leaf("y")
	isWay(t, 0, 2, x, []api.Sum{y}, leaf.Preimage(x, y))
	isWay(t, 1, 2, x, []api.Sum{y}, leaf.Preimage(y, x))
}

// P13.1: five leaves, one by one, each text in its place.
func TestWaysOfFive(t *testing.T) {
	h := made(4)
	x, p, q, r := h[0], h[1], h[2], h[3]
	three := []api.Sum{p, q, r}
	isWay(t, 0, 5, x, three, over(x, p), over(above(x, p), q), over(above(above(x, p), q), r))
	isWay(t, 1, 5, x, three, over(p, x), over(above(p, x), q), over(above(above(p, x), q), r))
	isWay(t, 2, 5, x, three, over(x, p), over(q, above(x, p)), over(above(q, above(x, p)), r))
	isWay(t, 3, 5, x, three, over(p, x), over(q, above(p, x)), over(above(q, above(p, x)), r))
	isWay(t, 4, 5, x, three[:1], over(p, x))
}

// P13.1: a path that was made elsewhere.
func TestKnownWay(t *testing.T) {
	strongOnly(t)
	h := hashes(
		"bc1a0643b12e4d2d7c77918f44e0f4f79a838b6cf9ec5b5c283e1f4d88599e6b",
		"ca854ea128ed050b41b35ffc1b87b8eb2bde461e9e3b5596ece6b9d5975a0ae0",
		"d37ee418976dd95753c1c73862b9398fa2a2cf9b4ff0fdfe8b30cd95209614b7",
		"5dc9da79a70659a9ad559cb701ded9a2ab9d823aad2f4960cfe370eff4604328")
	p, root := h[:3], h[3]
	x := right("\x00\x40\x41\x42\x43")
	two := right(over(p[0], x))
	four := right(over(two, p[1]))
	isWay(t, 5, 8, x, p, over(p[0], x), over(two, p[1]), over(p[2], four))
	isBool(t, "the root", right(over(p[2], four)) == root, true)
}

// P13.1: of one leaf there is no hash, and no text.
func TestWayOfOne(t *testing.T) {
	for _, x := range looks() {
		isWay(t, 0, 1, x, nil)
		isWay(t, 0, 1, x, []api.Sum{})
		isWay(t, 0, 1, x, []api.Sum{x})
		isWay(t, 0, 1, x, []api.Sum{{}})
	}
}

// P13.1: in the chapters' words, with hashes that no tree has, of each leaf and with each length.
func TestWaysGoUp(t *testing.T) {
	h := made(12)
	for n := 1; n < 80; n++ {
		for m := range n {
			for long := range h {
				x, p := h[long], h[:long]
				if long != path.Long(m, n) {
					isWay(t, m, n, x, p)
					continue
				}
				want, _, _ := worded(x, m, n, p)
				isWay(t, m, n, x, p, want...)
			}
		}
	}
}

// P13.1: hashes may be any, and alike.
func TestWaysOfAllLooks(t *testing.T) {
	l := looks()
	for n := 1; n < 20; n++ {
		for m := range n {
			for i, x := range l[:7] {
				p := l[i%4 : i%4+path.Long(m, n)]
				want, _, _ := worded(x, m, n, p)
				isWay(t, m, n, x, p, want...)
				same := slices.Repeat([]api.Sum{x}, path.Long(m, n))
				want, _, _ = worded(x, m, n, same)
				isWay(t, m, n, x, same, want...)
			}
		}
	}
}

// P13.1: a text for each hash; the leaf and the first hash stand in the first one, each one's hash and the next hash in the next one; the last one's hash is Fold's.
func TestWaysComeToFold(t *testing.T) {
	h := made(41)
	for _, n := range append(greatSizes(), 2, 3, 4, 5, 6, 7, 8, 9, 100, api.MaxCount) {
		for _, m := range some(n) {
			x, p := h[0], h[1:1+path.Long(m, n)]
			root, _ := proof.Fold(x, m, n, p)
			texts := twin.Way(m, n, x, p)
			isBool(t, called("Way", m, n)+": a text for each hash", len(texts) == len(p), true)
			for i, left := range path.Turns(m, n) {
				want := over(x, p[i])
				if left {
					want = over(p[i], x)
				}
				isBool(t, called("Way", m, n)+": text", texts[i] == want, true)
				x = sha.Of(texts[i])
			}
			isBool(t, called("Way", m, n)+": Fold", x == root, true)
		}
	}
}

// P13.1: up to 2^40 leaves.
func TestWaysOfGreatNumbers(t *testing.T) {
	h := made(42)
	for _, n := range greatSizes() {
		for _, m := range append(some(n), 0x5555555555%n, 0xaaaaaaaaaa%n, 0x123456789a%n) {
			long := path.Long(m, n)
			want, _, _ := worded(h[0], m, n, h[1:1+long])
			isWay(t, m, n, h[0], h[1:1+long], want...)
			isWay(t, m, n, h[0], h[1:2+long])
			isWay(t, m, n, h[0], h[1:long])
		}
	}
}

// P13.1, P1: of a place that there isn't, with no hashes and with some.
func TestNoWay(t *testing.T) {
	h := made(43)
	for _, long := range []int{0, 1, 2, 3, 39, 40, 41, 43} {
		for n := 1; n < 12; n++ {
			for _, m := range append(beyond(n), n) {
				isWay(t, m, n, h[0], h[:long])
			}
		}
		for _, n := range []int{0, -1, -2, -5, -most, math.MinInt, math.MinInt + 1} {
			for _, m := range append(beyond(5), 0, 1, n-1, n, n+1) {
				isWay(t, m, n, h[0], h[:long])
			}
		}
		for _, n := range []int{most + 1, most + 2, 2 * most, 1 << 50, 1 << 62, math.MaxInt - 1, math.MaxInt} {
			for _, m := range []int{0, 1, 2, most - 1, most, most + 1, n - 1, n, -1, math.MinInt} {
				isWay(t, m, n, h[0], h[:long])
			}
		}
	}
}

// P13.1, R5: a path is never too long to be answered.
func TestLongPaths(t *testing.T) {
	p := make([]api.Sum, 1<<20)
	for _, m := range []int{0, 1, 4, 5, most - 1, most} {
		isWay(t, m, most, api.Sum{1}, p)
		isWay(t, m, 6, api.Sum{1}, p)
		isBool(t, called("Leaves", m, most), areLeaves(t, m, most, api.Sum{1}, api.Sum{}, p, p), false)
		isBool(t, called("Trees", m, most), areTrees(t, m, most, api.Sum{1}, api.Sum{}, p, p), false)
	}
}

// R3, R4: what is handed in stays as it is, what is behind it too; what was told is its owner's, and another answer doesn't hang on it.
func TestWaysAreTheirOwners(t *testing.T) {
	for n := 1; n < 30; n++ {
		for m := range n {
			h := made(10)
			p := h[2 : 2+path.Long(m, n)]
			want, _, _ := worded(h[0], m, n, p)
			got := twin.Way(m, n, h[0], p)
			if !slices.Equal(h, made(10)) {
				t.Fatalf("%s changed what it was handed", called("Way", m, n))
			}
			isWay(t, m, n, h[0], slices.Clip(p), want...)
			x := h[0]
			clear(h)
			isBool(t, called("Way", m, n)+": behind another path", slices.Equal(got, want), true)
			clear(got)
			isWay(t, m, n, x, made(10)[2:2+len(want)], want...)
		}
	}
}

// P13.1, P1: whatever the numbers and the hashes are.
func FuzzWays(f *testing.F) {
	f.Add(0, 1, "")
	f.Add(2, 5, "abc")
	f.Add(5, 6, "ab")
	f.Add(most-1, most, "the quick brown fox jumps over the lazy d")
	f.Add(math.MinInt, math.MaxInt, "abc")
	f.Fuzz(func(t *testing.T, m, n int, s string) {
		p := make([]api.Sum, len(s))
		for i := range p {
			p[i] = api.Sum{0: s[i], 31: s[len(s)-1-i]}
		}
		x := api.Sum{5: 1}
		is := func(m, n int, p []api.Sum) {
			var want []string
			if len(p) == path.Long(m, n) {
				want, _, _ = worded(x, m, n, p)
			}
			isWay(t, m, n, x, p, want...)
		}
		is(m, n, p)
		n = int(uint(n)%most) + 1
		m = int(uint(m) % uint(n))
		is(m, n, p)
		is(m, n, append(p, made(41)...)[:path.Long(m, n)])
	})
}
