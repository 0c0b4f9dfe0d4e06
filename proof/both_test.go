package proof_test

import (
	"math"
	"slices"
	"testing"

	"scrinium/api"
	"scrinium/leaf"
	"scrinium/path"
	"scrinium/proof"
)

// P12.2: the chapter's examples.
func TestExamplesOfTrees(t *testing.T) {
	a, b, c := leaf.Leaf("a"), leaf.Leaf("b"), leaf.Leaf("c")
	root := leaf.Root([]api.Sum{a, b, c})
	isBool(t, "Goes", proof.Goes(leaf.Node(a, b), 2, root, 3, []api.Sum{c}), true)
	isBool(t, "Goes from all on", proof.Goes(root, 3, root, 3, nil), true)
	isBool(t, "Goes back", proof.Goes(root, 3, leaf.Node(a, b), 2, []api.Sum{c}), false)
}

// P12.2: seven leaves, from each number on, each hash in its place.
func TestBothOfSeven(t *testing.T) {
	h := made(5)
	a, p, q, r, s := h[0], h[1], h[2], h[3], h[4]
	isBoth(t, a, 1, 7, h[1:4], a, above(above(above(a, p), q), r))
	isBoth(t, a, 2, 7, h[1:3], a, above(above(a, p), q))
	isBoth(t, a, 3, 7, h[1:5], above(r, p), above(above(r, above(p, q)), s))
	isBoth(t, a, 4, 7, h[1:2], a, above(a, p))
	isBoth(t, a, 5, 7, h[1:5], above(s, p), above(s, above(above(p, q), r)))
	isBoth(t, a, 6, 7, h[1:4], above(r, p), above(r, above(p, q)))
	isBoth(t, a, 7, 7, nil, a, a)
}

// P12.2: links and roots that were made elsewhere.
func TestKnownLinks(t *testing.T) {
	roots := hashes(
		"6e340b9cffb37a989ca544e6bb780a2c78901d3fb33738768511a30617afa01d",
		"fac54203e7cc696cf0dfcb42c92a1d9dbaf70ad9e621f4bd8d98662f00e3c125",
		"aeb6bcfe274b70a14fb067a5e5578264db0fa9b51af5e0ba159158f329e06e77",
		"d37ee418976dd95753c1c73862b9398fa2a2cf9b4ff0fdfe8b30cd95209614b7",
		"4e3bbb1f7b478dcfe71fb631631519a3bca12c9aefca1612bfce4c13a86264d4",
		"76e67dadbcdf1e10e1b74ddc608abd2f98dfb16fbce75277b5232a127f2087ef",
		"ddb89be403809e325750d3d263cd78929c2942b7942a34b77e122c9594a74c8c",
		"5dc9da79a70659a9ad559cb701ded9a2ab9d823aad2f4960cfe370eff4604328")
	isBoth(t, roots[0], 1, 1, nil, roots[0], roots[0])
	isBoth(t, roots[0], 1, 8, hashes(
		"96a296d224f285c67bee93c30f8a309157f0daa35dc5b87e410b78630a09cfc7",
		"5f083f0a1a33ca076a95279832580db3e0ef4584bdff1f54c8a360f50de3031e",
		"6b47aaf29ee3c2af9af889bc1fb9254dabd31177f16232dd6aab035ca39bf6e4"), roots[0], roots[7])
	isBoth(t, roots[5], 6, 8, hashes(
		"0ebc5d3437fbe2db158b9f126a1d118e308181031d0a949f8dededebc558ef6a",
		"ca854ea128ed050b41b35ffc1b87b8eb2bde461e9e3b5596ece6b9d5975a0ae0",
		"d37ee418976dd95753c1c73862b9398fa2a2cf9b4ff0fdfe8b30cd95209614b7"), roots[5], roots[7])
	isBoth(t, roots[1], 2, 5, hashes(
		"5f083f0a1a33ca076a95279832580db3e0ef4584bdff1f54c8a360f50de3031e",
		"bc1a0643b12e4d2d7c77918f44e0f4f79a838b6cf9ec5b5c283e1f4d88599e6b"), roots[1], roots[4])
}

// P12.2: from all on there are no links, and both are a, whatever it is; also no bit, and that goes.
func TestBothOfAll(t *testing.T) {
	for _, a := range append(looks(), leaf.Empty(), leaf.Leaf("")) {
		for _, n := range append(sizes(), 1, 2, 3, 4, 5, 6, 7, 8, 9, most-1, most) {
			isBoth(t, a, n, n, nil, a, a)
			isBoth(t, a, n, n, []api.Sum{}, a, a)
			isNoBoth(t, a, n, n, []api.Sum{a})
			isNoBoth(t, a, n, n, []api.Sum{{}})
		}
	}
}

// P12.2: in the chapter's words, and against RFC 9162's way, with hashes that no tree has, from each number on and with each length.
func TestBothGoUp(t *testing.T) {
	h := made(13)
	for n := 1; n < 140; n++ {
		for m := 1; m <= n; m++ {
			for long := range h {
				a, links := h[long], h[:long]
				elder, newer, ok := chained(a, m, n, links)
				if !ok {
					isNoBoth(t, a, m, n, links)
					continue
				}
				isBoth(t, a, m, n, links, elder, newer)
				e, w, rest := worded(a, m, n, true, links)
				isBool(t, called("in the chapter's words", m, n), e == elder && w == newer && len(rest) == 0, true)
			}
		}
	}
}

// P12.2: as many hashes as path.LinksLong tells, no more and no fewer.
func TestLinksOfOtherLengths(t *testing.T) {
	h := made(60)
	for _, n := range append(sizes(), 1, 2, 3, 4, 5, 6, 7, 8, 9, most-1, most) {
		for _, i := range some(n) {
			m := i + 1
			for long := range h {
				elder, newer, ok := proof.Both(h[0], m, n, h[:long])
				isBool(t, called("Both", m, n), ok, long == path.LinksLong(m, n))
				isBool(t, called("Both", m, n)+": no bit", elder == api.Sum{} || newer == api.Sum{}, !ok)
				if !ok {
					isNoBoth(t, h[0], m, n, h[:long])
				}
			}
		}
	}
}

// P12.2, P1: from a number on that there isn't, with no hashes and with some.
func TestNoLinks(t *testing.T) {
	h := made(43)
	for _, long := range []int{0, 1, 2, 3, 39, 40, 41, 43} {
		for n := 1; n < 12; n++ {
			for _, m := range append(beyond(n), 0) {
				isNoBoth(t, h[0], m, n, h[:long])
			}
		}
		for _, n := range []int{0, -1, -2, -5, -most, math.MinInt, math.MinInt + 1} {
			for _, m := range append(beyond(5), 0, 1, n-1, n, n+1) {
				isNoBoth(t, h[0], m, n, h[:long])
			}
		}
		for _, n := range []int{most + 1, most + 2, 2 * most, 1 << 50, 1 << 62, math.MaxInt - 1, math.MaxInt} {
			for _, m := range []int{0, 1, 2, most - 1, most, most + 1, n - 1, n, -1, math.MinInt} {
				isNoBoth(t, h[0], m, n, h[:long])
			}
		}
	}
}

// P12.2: up to 2^40 leaves.
func TestBothOfGreatNumbers(t *testing.T) {
	h := made(43)
	for _, n := range greatSizes() {
		for _, i := range append(some(n), 0x5555555555%n, 0xaaaaaaaaaa%n, 0x123456789a%n) {
			m := i + 1
			links := h[1 : 1+path.LinksLong(m, n)]
			elder, newer, ok := chained(h[0], m, n, links)
			if !ok {
				t.Fatalf("%s: %d hashes are too many or too few", called("Both", m, n), len(links))
			}
			isBoth(t, h[0], m, n, links, elder, newer)
			e, w, _ := worded(h[0], m, n, true, links)
			isBool(t, called("in the chapter's words", m, n), e == elder && w == newer, true)
		}
	}
}

// P12.2: roots and hashes may be any, and alike.
func TestBothOfAllLooks(t *testing.T) {
	l := looks()
	for n := 1; n < 20; n++ {
		for m := 1; m <= n; m++ {
			for i, a := range l[:7] {
				links := l[i%4 : i%4+path.LinksLong(m, n)]
				elder, newer, _ := worded(a, m, n, true, links)
				isBoth(t, a, m, n, links, elder, newer)
				same := slices.Repeat([]api.Sum{a}, path.LinksLong(m, n))
				elder, newer, _ = worded(a, m, n, true, same)
				isBoth(t, a, m, n, same, elder, newer)
			}
		}
	}
}

// P12.2: where links never went into the others, both hang on a; where they did, neither does, and Goes alone asks what a is.
func TestWhatHangsOnTheElderRoot(t *testing.T) {
	h := made(12)
	for n := 1; n < 70; n++ {
		for m := 1; m <= n; m++ {
			whole := m == n || m&(m-1) == 0
			links := h[2 : 2+path.LinksLong(m, n)]
			elder, newer, _ := proof.Both(h[0], m, n, links)
			isBool(t, called("Both", m, n)+": a", elder == h[0], whole)
			otherElder, otherNewer, _ := proof.Both(h[1], m, n, links)
			isBool(t, called("Both", m, n)+" of another one", otherElder == elder, !whole)
			isBool(t, called("Both", m, n)+" of another one: the newer", otherNewer == newer, !whole)
			isBool(t, called("Goes", m, n), proof.Goes(elder, m, newer, n, links), true)
			isBool(t, called("Goes", m, n)+" of another one", proof.Goes(h[1], m, newer, n, links), false)
		}
	}
}

// P12.2: what came later is no part of the elder tree: its root hangs on all links but those.
func TestWhatHangsOnLinks(t *testing.T) {
	for n := 1; n < 70; n++ {
		for m := 1; m <= n; m++ {
			links := made(1 + path.LinksLong(m, n))[1:]
			a := made(1)[0]
			elder, newer, _ := proof.Both(a, m, n, links)
			hang := 0
			for i := range links {
				l := slices.Clone(links)
				l[i] = unlike(l[i], (m+n+i)%256)
				e, w, ok := proof.Both(a, m, n, l)
				isBool(t, called("Both", m, n), ok, true)
				isBool(t, called("Both", m, n)+": the newer one hangs on it", w != newer, true)
				if e != elder {
					hang++
				}
			}
			// The elder tree is its whole parts: those that are no whole part of all leaves are told.
			want := 0
			for rest := m; rest > 0 && m < n && m&(m-1) != 0; rest &= rest - 1 {
				want++
			}
			if hang != want {
				t.Errorf("%s: the elder one hangs on %d links, want %d", called("Both", m, n), hang, want)
			}
		}
	}
}

// P12.2: two roots go together alone: no bit may be another one, of them or of the links.
func TestEachBitOfLinksCounts(t *testing.T) {
	links := made(4)
	elder, newer, _ := worded(api.Sum{}, 3, 7, true, links)
	root, late := made(5)[4], made(4)[:2]
	_, grown, _ := worded(root, 2, 7, true, late)
	for bit := range 256 {
		isBool(t, "Goes of another one", proof.Goes(unlike(elder, bit), 3, newer, 7, links), false)
		isBool(t, "Goes to another one", proof.Goes(elder, 3, unlike(newer, bit), 7, links), false)
		isBool(t, "Goes of another whole one", proof.Goes(unlike(root, bit), 2, grown, 7, late), false)
		isBool(t, "Goes of a whole one to another one", proof.Goes(root, 2, unlike(grown, bit), 7, late), false)
		isBool(t, "Goes of another one to itself", proof.Goes(unlike(root, bit), 7, root, 7, nil), false)
		for i := range links {
			l := slices.Clone(links)
			l[i] = unlike(l[i], bit)
			isBool(t, "Goes with other links", proof.Goes(elder, 3, newer, 7, l), false)
		}
	}
	isBool(t, "Goes", proof.Goes(elder, 3, newer, 7, links), true)
	isBool(t, "Goes of a whole one", proof.Goes(root, 2, grown, 7, late), true)
	isBool(t, "Goes the other way round", proof.Goes(newer, 3, elder, 7, links), false)
	isBool(t, "Goes from the newer one on", proof.Goes(newer, 3, newer, 7, links), false)
	isBool(t, "Goes to the elder one", proof.Goes(elder, 3, elder, 7, links), false)
}

// P12.2, R5: links are never too many to be answered.
func TestLongLinks(t *testing.T) {
	links := make([]api.Sum, 1<<20)
	for _, m := range []int{1, 2, 5, 6, most - 1, most} {
		isNoBoth(t, api.Sum{1}, m, most, links)
		isNoBoth(t, api.Sum{1}, m, 6, links)
	}
}

// R3, R4: links that are handed in stay as they are, what is behind them too; asked again they come to the same.
func TestBothLeaveWhatTheyAreHanded(t *testing.T) {
	for n := 1; n < 30; n++ {
		for m := 1; m <= n; m++ {
			h := made(10)
			links := h[2 : 2+path.LinksLong(m, n)]
			a := h[0]
			elder, newer, _ := worded(a, m, n, true, links)
			isBoth(t, a, m, n, links, elder, newer)
			isBoth(t, a, m, n, slices.Clip(links), elder, newer)
			if a != made(1)[0] || !slices.Equal(h, made(10)) {
				t.Fatalf("%s changed what they were handed", called("Both", m, n))
			}
			clear(h)
			isBoth(t, made(1)[0], m, n, made(10)[2:2+len(links)], elder, newer)
		}
	}
}

// P12.2, P1: whatever the numbers and the hashes are.
func FuzzLinks(f *testing.F) {
	f.Add(1, 1, "")
	f.Add(3, 5, "abcd")
	f.Add(2, 3, "a")
	f.Add(most-1, most, "the quick brown fox jumps over the lazy do")
	f.Add(math.MinInt, math.MaxInt, "abc")
	f.Fuzz(func(t *testing.T, m, n int, s string) {
		h := make([]api.Sum, len(s))
		for i := range h {
			h[i] = api.Sum{0: s[i], 31: s[len(s)-1-i]}
		}
		areBoth := func(m, n int, links []api.Sum) {
			if elder, newer, ok := chained(api.Sum{5: 1}, m, n, links); ok {
				isBoth(t, api.Sum{5: 1}, m, n, links, elder, newer)
			} else {
				isNoBoth(t, api.Sum{5: 1}, m, n, links)
			}
		}
		areBoth(m, n, h)
		n = int(uint(n)%most) + 1
		m = int(uint(m)%uint(n)) + 1
		areBoth(m, n, h)
		areBoth(m, n, append(h, made(42)...)[:path.LinksLong(m, n)])
	})
}
