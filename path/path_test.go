package path_test

import (
	"slices"
	"strconv"
	"testing"

	"scrinium/api"
	"scrinium/leaf"
	"scrinium/path"
)

// P10.1: the chapter's examples.
func TestExamplesOfPaths(t *testing.T) {
	a, b, c := leaf.Leaf("a"), leaf.Leaf("b"), leaf.Leaf("c")
	l := []api.Sum{a, b, c}
	p, ok := path.Path(l, 2)
	isList(t, "Path of 2", p, ok, []api.Sum{leaf.Node(a, b)})
	p, ok = path.Path(l, 0)
	isList(t, "Path of 0", p, ok, []api.Sum{b, c})
	p, ok = path.Path(l, 1)
	isList(t, "Path of 1", p, ok, []api.Sum{a, c})
}

// P10.1: the paths in seven leaves that RFC 6962 (2.1.3) tells.
func TestPathsInSeven(t *testing.T) {
	d := leaves(7)
	g, h, i, j := above(d[0], d[1]), above(d[2], d[3]), above(d[4], d[5]), d[6]
	k, l := above(g, h), above(i, j)
	for m, want := range [][]api.Sum{
		{d[1], h, l},
		{d[0], h, l},
		{d[3], g, l},
		{d[2], g, l},
		{d[5], j, k},
		{d[4], j, k},
		{i, k},
	} {
		p, ok := path.Path(d, m)
		isList(t, called("Path", m, 7), p, ok, want)
	}
}

// P10.1: paths that were made elsewhere.
func TestKnownPaths(t *testing.T) {
	l := eight()
	p, ok := path.Path(l[:1], 0)
	isHexes(t, "Path of 0, 1", p, ok)
	p, ok = path.Path(l, 0)
	isHexes(t, "Path of 0, 8", p, ok,
		"96a296d224f285c67bee93c30f8a309157f0daa35dc5b87e410b78630a09cfc7",
		"5f083f0a1a33ca076a95279832580db3e0ef4584bdff1f54c8a360f50de3031e",
		"6b47aaf29ee3c2af9af889bc1fb9254dabd31177f16232dd6aab035ca39bf6e4")
	p, ok = path.Path(l, 5)
	isHexes(t, "Path of 5, 8", p, ok,
		"bc1a0643b12e4d2d7c77918f44e0f4f79a838b6cf9ec5b5c283e1f4d88599e6b",
		"ca854ea128ed050b41b35ffc1b87b8eb2bde461e9e3b5596ece6b9d5975a0ae0",
		"d37ee418976dd95753c1c73862b9398fa2a2cf9b4ff0fdfe8b30cd95209614b7")
	p, ok = path.Path(l[:3], 2)
	isHexes(t, "Path of 2, 3", p, ok,
		"fac54203e7cc696cf0dfcb42c92a1d9dbaf70ad9e621f4bd8d98662f00e3c125")
	p, ok = path.Path(l[:5], 1)
	isHexes(t, "Path of 1, 5", p, ok,
		"6e340b9cffb37a989ca544e6bb780a2c78901d3fb33738768511a30617afa01d",
		"5f083f0a1a33ca076a95279832580db3e0ef4584bdff1f54c8a360f50de3031e",
		"bc1a0643b12e4d2d7c77918f44e0f4f79a838b6cf9ec5b5c283e1f4d88599e6b")
}

// P10.1: of one leaf nothing, whatever it is, and true.
func TestPathOfOne(t *testing.T) {
	for _, x := range []api.Sum{{}, {0: 1}, leaf.Empty(), leaf.Leaf("")} {
		p, ok := path.Path([]api.Sum{x}, 0)
		isList(t, "Path of one", p, ok, nil)
	}
}

// P10.1: as the chapter puts it together, by Split and Root.
func TestPathIsOfBothParts(t *testing.T) {
	all := leaves(70)
	for n := 2; n <= len(all); n++ {
		l := all[:n]
		k := leaf.Split(n)
		for m := range n {
			part, at, other := l[:k], m, l[k:]
			if m >= k {
				part, at, other = l[k:], m-k, l[:k]
			}
			inner, ok := path.Path(part, at)
			if !ok {
				t.Errorf("%s: false", called("Path", at, len(part)))
			}
			p, ok := path.Path(l, m)
			isList(t, called("Path", m, n), p, ok, append(inner, grown(other)))
		}
	}
}

// P10.1: against a way that splits nothing, of each leaf, also where the row is a piece of a longer one.
func TestPathIsClimbed(t *testing.T) {
	all := leaves(150)
	for n := 1; n < 140; n++ {
		rows := leaf.Levels(all[:n])
		for m := range n {
			p, ok := path.Path(all[:n], m)
			isList(t, called("Path", m, n), p, ok, climbed(rows, m))
		}
		p, ok := path.Path(all[7:7+n], n/2)
		isList(t, called("Path from the seventh on", n/2, n), p, ok, climbed(leaf.Levels(all[7:7+n]), n/2))
	}
}

// P10.1, R5: of many leaves.
func TestPathInManyLeaves(t *testing.T) {
	all := leaves(1<<16 + 1)
	for _, n := range append(sizes(), 1<<16-1, 1<<16, 1<<16+1) {
		places := some(n)
		if n > api.MaxCount+1 {
			places = []int{0, n / 3, n - 2, n - 1}
		}
		rows := leaf.Levels(all[:n])
		for _, m := range places {
			p, ok := path.Path(all[:n], m)
			isList(t, called("Path", m, n), p, ok, climbed(rows, m))
		}
	}
}

// P10.1: like leaves are told apart by their places alone.
func TestPathInLikeLeaves(t *testing.T) {
	l := slices.Repeat([]api.Sum{{5: 9}}, 21)
	for n := 1; n <= len(l); n++ {
		for m := range n {
			p, ok := path.Path(l[:n], m)
			isList(t, called("Path", m, n), p, ok, climbed(leaf.Levels(l[:n]), m))
		}
	}
}

// P10.1, P1, R1: of a place that there isn't, in no leaves nor in many.
func TestNoPath(t *testing.T) {
	for _, l := range [][]api.Sum{nil, {}, leaves(3)[:0]} {
		for _, m := range append(beyond(0), 0) {
			p, ok := path.Path(l, m)
			isNone(t, called("Path", m, 0), p, ok)
		}
	}
	for n := 1; n < 40; n++ {
		l := leaves(n + 3)
		for _, m := range append(beyond(n), n) {
			p, ok := path.Path(l[:n], m)
			isNone(t, called("Path", m, n), p, ok)
		}
	}
}

// P10.1, P10.2: a path and its turns lead to the root, and those of another place or with another leaf don't.
func TestPathLeadsToTheRoot(t *testing.T) {
	all := leaves(70)
	for n := 1; n <= len(all); n++ {
		l := all[:n]
		root := leaf.Root(l)
		for m, x := range l {
			p, _ := path.Path(l, m)
			turns := path.Turns(m, n)
			if len(turns) != len(p) {
				t.Fatalf("%s: %d of them, want %d", called("Turns", m, n), len(turns), len(p))
			}
			if folded(x, p, turns) != root {
				t.Errorf("%s: not up to the root", called("Path", m, n))
			}
			if n > 1 && folded(all[(m+1)%n], p, turns) == root {
				t.Errorf("%s: up to the root from another leaf", called("Path", m, n))
			}
		}
	}
}

// P10.1: of each other leaf one hash of the path hangs on it, and on its own leaf none.
func TestPathHangsOnTheOthers(t *testing.T) {
	for n := 1; n < 20; n++ {
		l := leaves(n)
		for m := range n {
			was, _ := path.Path(l, m)
			for i := range l {
				l[i][31] ^= 1
				now, _ := path.Path(l, m)
				unlike := 0
				for j := range was {
					if was[j] != now[j] {
						unlike++
					}
				}
				want := 1
				if i == m {
					want = 0
				}
				isInt(t, called("Path", m, n)+": how many hang on "+strconv.Itoa(i), unlike, want)
				l[i][31] ^= 1
			}
		}
	}
}

// R3, R4: what is handed in stays as it is, what is behind it too; asked again it tells the same.
func TestPathLeavesWhatItIsHanded(t *testing.T) {
	for n := 1; n < 30; n++ {
		for m := range n {
			l := leaves(n + 5)
			p, _ := path.Path(l[:n], m)
			if !slices.Equal(l, leaves(n+5)) {
				t.Fatalf("%s changed what it was handed", called("Path", m, n))
			}
			again, ok := path.Path(l[:n], m)
			isList(t, "asked again", again, ok, p)
			again, ok = path.Path(l[:n:n], m)
			isList(t, "without room behind it", again, ok, p)
			clear(l)
			isList(t, "the leaves are others", p, true, again)
			again, ok = path.Path(leaves(n), m)
			isList(t, "the same leaves", again, ok, p)
		}
	}
}

// R3: a path that is told is its owner's, no piece of the row.
func TestPathIsItsOwners(t *testing.T) {
	for n := 1; n < 30; n++ {
		for m := range n {
			l := leaves(n)
			p, _ := path.Path(l, m)
			clear(p[:cap(p)])
			_ = append(p[:0], slices.Repeat([]api.Sum{{1}}, cap(p))...)
			if !slices.Equal(l, leaves(n)) {
				t.Fatalf("%s: a piece of what was handed in", called("Path", m, n))
			}
			again, ok := path.Path(l, m)
			isList(t, "asked again", again, ok, climbed(leaf.Levels(l), m))
		}
	}
}

// P10.1 to P10.3: whatever the leaves and the place are.
func FuzzPaths(f *testing.F) {
	f.Add("", 0)
	f.Add("a", 0)
	f.Add("abcdefg", 6)
	f.Add("the quick brown fox jumps over the lazy dog", -1)
	f.Fuzz(func(t *testing.T, s string, m int) {
		l := make([]api.Sum, len(s))
		for i := range l {
			l[i] = api.Sum{0: s[i], 31: s[len(s)-1-i]}
		}
		n := len(l)
		p, ok := path.Path(l, m)
		if m < 0 || m >= n {
			isNone(t, called("Path", m, n), p, ok)
		} else {
			isList(t, called("Path", m, n), p, ok, climbed(leaf.Levels(l), m))
		}
		isReckoned(t, m, n)
		k, ok := path.Links(l, m)
		if m < 1 || m > n {
			isNone(t, called("Links", m, n), k, ok)
		} else {
			isList(t, called("Links", m, n), k, ok, climbedLinks(leaf.Levels(l), m))
			isChain(t, l, m, k)
		}
	})
}
