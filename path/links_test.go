package path_test

import (
	"slices"
	"testing"

	"scrinium/api"
	"scrinium/leaf"
	"scrinium/path"
)

// P10.1: the chapter's examples.
func TestExamplesOfLinks(t *testing.T) {
	a, b, c := leaf.Leaf("a"), leaf.Leaf("b"), leaf.Leaf("c")
	l := []api.Sum{a, b, c}
	k, ok := path.Links(l, 2)
	isList(t, "Links from 2 on", k, ok, []api.Sum{c})
	k, ok = path.Links(l, 3)
	isList(t, "Links from 3 on", k, ok, nil)
	k, ok = path.Links(l, 1)
	isList(t, "Links from 1 on", k, ok, []api.Sum{b, c})
}

// P10.1: the links in seven leaves, among them those that RFC 6962 (2.1.3) tells.
func TestLinksInSeven(t *testing.T) {
	d := leaves(7)
	g, h, i, j := above(d[0], d[1]), above(d[2], d[3]), above(d[4], d[5]), d[6]
	k, l := above(g, h), above(i, j)
	for m, want := range [][]api.Sum{
		1: {d[1], h, l},
		2: {h, l},
		3: {d[2], d[3], g, l},
		4: {l},
		5: {d[4], d[5], j, k},
		6: {i, j, k},
		7: {},
	} {
		if m > 0 {
			links, ok := path.Links(d, m)
			isList(t, called("Links", m, 7), links, ok, want)
		}
	}
}

// P10.1: links that were made elsewhere.
func TestKnownLinks(t *testing.T) {
	l := eight()
	k, ok := path.Links(l[:1], 1)
	isHexes(t, "Links of 1, 1", k, ok)
	k, ok = path.Links(l, 1)
	isHexes(t, "Links of 1, 8", k, ok,
		"96a296d224f285c67bee93c30f8a309157f0daa35dc5b87e410b78630a09cfc7",
		"5f083f0a1a33ca076a95279832580db3e0ef4584bdff1f54c8a360f50de3031e",
		"6b47aaf29ee3c2af9af889bc1fb9254dabd31177f16232dd6aab035ca39bf6e4")
	k, ok = path.Links(l, 6)
	isHexes(t, "Links of 6, 8", k, ok,
		"0ebc5d3437fbe2db158b9f126a1d118e308181031d0a949f8dededebc558ef6a",
		"ca854ea128ed050b41b35ffc1b87b8eb2bde461e9e3b5596ece6b9d5975a0ae0",
		"d37ee418976dd95753c1c73862b9398fa2a2cf9b4ff0fdfe8b30cd95209614b7")
	k, ok = path.Links(l[:5], 2)
	isHexes(t, "Links of 2, 5", k, ok,
		"5f083f0a1a33ca076a95279832580db3e0ef4584bdff1f54c8a360f50de3031e",
		"bc1a0643b12e4d2d7c77918f44e0f4f79a838b6cf9ec5b5c283e1f4d88599e6b")
}

// worded are the links in the chapter's words.
func worded(l []api.Sum, m int, whole bool) []api.Sum {
	n := len(l)
	k := leaf.Split(n)
	switch {
	case m == n && whole:
		return nil
	case m == n:
		return []api.Sum{grown(l)}
	case m <= k:
		return append(worded(l[:k], m, whole), grown(l[k:]))
	}
	return append(worded(l[k:], m-k, false), grown(l[:k]))
}

// P10.1: in the chapter's words, and against a way that splits nothing, from each number on.
func TestLinksAreClimbed(t *testing.T) {
	all := leaves(150)
	for n := 1; n < 140; n++ {
		l := all[:n]
		rows := leaf.Levels(l)
		for m := 1; m <= n; m++ {
			k, ok := path.Links(l, m)
			isList(t, called("Links", m, n), k, ok, climbedLinks(rows, m))
			if n < 40 {
				isList(t, called("Links", m, n), k, ok, worded(l, m, true))
			}
		}
		k, ok := path.Links(all[7:7+n], n/2+1)
		isList(t, called("Links from the seventh on", n/2+1, n), k, ok, climbedLinks(leaf.Levels(all[7:7+n]), n/2+1))
	}
}

// P10.1, R5: of many leaves.
func TestLinksInManyLeaves(t *testing.T) {
	all := leaves(1<<16 + 1)
	for _, n := range append(sizes(), 1<<16-1, 1<<16, 1<<16+1) {
		places := some(n)
		if n > api.MaxCount+1 {
			places = []int{0, n / 3, n - 2, n - 1}
		}
		rows := leaf.Levels(all[:n])
		for _, i := range places {
			k, ok := path.Links(all[:n], i+1)
			isList(t, called("Links", i+1, n), k, ok, climbedLinks(rows, i+1))
		}
	}
}

// P10.1: from all on nothing, and true; also where the row is as many as a power of two.
func TestLinksFromAllOn(t *testing.T) {
	all := leaves(130)
	for n := 1; n <= len(all); n++ {
		k, ok := path.Links(all[:n], n)
		isList(t, called("Links", n, n), k, ok, nil)
	}
}

// P10.1: from a whole first part on its root isn't told; with one leaf less it is no part of the tree, and the first hash is a part's root.
func TestLinksOfWholeParts(t *testing.T) {
	for n := 3; n < 140; n++ {
		l := leaves(n)
		k := leaf.Split(n)
		links, ok := path.Links(l, k)
		isList(t, called("Links", k, n), links, ok, []api.Sum{grown(l[k:])})
		links, ok = path.Links(l, k+1)
		if k+1 < n && (!ok || links[0] != l[k]) {
			t.Errorf("%s: %x, %t, want %x as the first one", called("Links", k+1, n), links, ok, l[k])
		}
	}
}

// P10.1, P1, R1: from a number on that there isn't, in no leaves nor in many.
func TestNoLinks(t *testing.T) {
	for _, l := range [][]api.Sum{nil, {}, leaves(3)[:0]} {
		for _, m := range append(beyond(0), 0) {
			k, ok := path.Links(l, m)
			isNone(t, called("Links", m, 0), k, ok)
		}
	}
	for n := 1; n < 40; n++ {
		l := leaves(n + 3)
		for _, m := range append(beyond(n), 0) {
			k, ok := path.Links(l[:n], m)
			isNone(t, called("Links", m, n), k, ok)
		}
	}
}

// isChain fails if links don't lead from the root of the first m leaves to that of all.
func isChain(t *testing.T, l []api.Sum, m int, links []api.Sum) {
	t.Helper()
	a := leaf.Root(l[:m])
	elder, newer, ok := chained(a, m, len(l), links)
	if !ok || elder != a || newer != leaf.Root(l) {
		t.Errorf("%s: they lead to %x, %x, %t", called("Links", m, len(l)), elder, newer, ok)
	}
}

// P10.1: links lead from the elder root to the newer one.
func TestLinksLeadToBothRoots(t *testing.T) {
	all := leaves(70)
	for n := 1; n <= len(all); n++ {
		for m := 1; m <= n; m++ {
			k, _ := path.Links(all[:n], m)
			isChain(t, all[:n], m, k)
		}
	}
}

// R3, R4: what is handed in stays as it is, what is behind it too; asked again it tells the same.
func TestLinksLeaveWhatTheyAreHanded(t *testing.T) {
	for n := 1; n < 30; n++ {
		for m := 1; m <= n; m++ {
			l := leaves(n + 5)
			k, _ := path.Links(l[:n], m)
			if !slices.Equal(l, leaves(n+5)) {
				t.Fatalf("%s changed what they were handed", called("Links", m, n))
			}
			again, ok := path.Links(l[:n], m)
			isList(t, "asked again", again, ok, k)
			again, ok = path.Links(l[:n:n], m)
			isList(t, "without room behind it", again, ok, k)
			clear(l)
			isList(t, "the leaves are others", k, true, again)
			again, ok = path.Links(leaves(n), m)
			isList(t, "the same leaves", again, ok, k)
		}
	}
}

// R3: links that are told are their owner's, no piece of the row.
func TestLinksAreTheirOwners(t *testing.T) {
	for n := 1; n < 30; n++ {
		for m := 1; m <= n; m++ {
			l := leaves(n)
			k, _ := path.Links(l, m)
			clear(k[:cap(k)])
			_ = append(k[:0], slices.Repeat([]api.Sum{{1}}, cap(k))...)
			if !slices.Equal(l, leaves(n)) {
				t.Fatalf("%s: a piece of what was handed in", called("Links", m, n))
			}
			again, ok := path.Links(l, m)
			isList(t, "asked again", again, ok, climbedLinks(leaf.Levels(l), m))
		}
	}
}
