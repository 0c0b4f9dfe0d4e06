package proof_test

import (
	"slices"
	"testing"

	"scrinium/api"
	"scrinium/leaf"
	"scrinium/path"
	"scrinium/proof"
)

// P12.3: Right holds of each leaf of a tree, with its path and its root, and of no other leaf there, nor with its neighbour's path.
func TestRightOfEachLeaf(t *testing.T) {
	all := leaves(140)
	for n := 1; n <= len(all); n++ {
		l := all[:n]
		root := leaf.Root(l)
		for m, x := range l {
			p := pathOf(t, l, m)
			isBool(t, called("Right", m, n), proof.Right(root, x, m, n, p), true)
			next := (m + 1) % n
			isBool(t, called("Right of the next leaf", m, n), proof.Right(root, l[next], m, n, p), n == 1)
			isBool(t, called("Right with the next path", m, n), proof.Right(root, x, m, n, pathOf(t, l, next)), n == 1)
			isBool(t, called("Right at the next place", next, n), proof.Right(root, x, next, n, p), n == 1)
			isBool(t, called("Right of the root itself", m, n), proof.Right(root, root, m, n, p), n == 1)
		}
	}
}

// P12.3: Goes holds of the roots of the first m leaves, and of all, with the links, and of no other roots there.
func TestGoesOfEachTwoTrees(t *testing.T) {
	all := leaves(141)
	roots := make([]api.Sum, len(all)+1)
	for n := range roots {
		roots[n] = leaf.Root(all[:n])
	}
	for n := 1; n < len(all); n++ {
		for m := 1; m <= n; m++ {
			links := linksOf(t, all[:n], m)
			isBoth(t, roots[m], m, n, links, roots[m], roots[n])
			isBool(t, called("Goes of a smaller one", m, n), proof.Goes(roots[m-1], m, roots[n], n, links), false)
			isBool(t, called("Goes of a greater one", m, n), proof.Goes(roots[m+1], m, roots[n], n, links), false)
			isBool(t, called("Goes to a smaller one", m, n), proof.Goes(roots[m], m, roots[n-1], n, links), false)
			isBool(t, called("Goes to a greater one", m, n), proof.Goes(roots[m], m, roots[n+1], n, links), false)
		}
	}
}

// P12.3: in trees of many leaves.
func TestRightAndGoesInManyLeaves(t *testing.T) {
	all := leaves(api.MaxCount + 1)
	for _, n := range sizes() {
		l := all[:n]
		root := leaf.Root(l)
		for _, m := range some(n) {
			isFold(t, l[m], m, n, pathOf(t, l, m), root)
			elder := leaf.Root(l[:m+1])
			isBoth(t, elder, m+1, n, linksOf(t, l, m+1), elder, root)
		}
	}
}

// P12.3: leaves that are alike, or of any looks, are right too.
func TestRightOfAllLooks(t *testing.T) {
	for _, l := range [][]api.Sum{looks(), slices.Repeat([]api.Sum{{}}, 21), slices.Repeat([]api.Sum{{5: 9}}, 16)} {
		root := leaf.Root(l)
		for m, x := range l {
			n := len(l)
			isFold(t, x, m, n, pathOf(t, l, m), root)
			elder := leaf.Root(l[:m+1])
			isBoth(t, elder, m+1, n, linksOf(t, l, m+1), elder, root)
		}
	}
}

// rows are all lists of so many of these hashes.
func rows(known []api.Sum, long int, each func([]api.Sum)) {
	row := make([]api.Sum, 0, long)
	var fill func()
	fill = func() {
		if len(row) == long {
			each(row)
			return
		}
		for _, x := range known {
			row = append(row, x)
			fill()
			row = row[:len(row)-1]
		}
	}
	fill()
}

// known are all hashes of a tree.
func known(l []api.Sum) []api.Sum {
	var all []api.Sum
	for _, row := range leaf.Levels(l) {
		for _, x := range row {
			if !slices.Contains(all, x) {
				all = append(all, x)
			}
		}
	}
	return all
}

// P12.3: of all hashes of a tree, none but the leaf is right at its place, and with its own path alone.
func TestNothingElseIsRight(t *testing.T) {
	for n := 1; n <= 6; n++ {
		l := leaves(n)
		hashes, root := known(l), leaf.Root(l)
		for m := range n {
			own := pathOf(t, l, m)
			found := 0
			rows(hashes, len(own), func(p []api.Sum) {
				for _, x := range hashes {
					if !proof.Right(root, x, m, n, p) {
						continue
					}
					found++
					if x != l[m] || !slices.Equal(p, own) {
						t.Errorf("%s: of %x with %x", called("Right", m, n), x, p)
					}
				}
			})
			isBool(t, called("Right of one alone", m, n), found == 1, true)
		}
	}
}

// P12.3: of all hashes of a tree, none but the first leaves' root goes together with the root of all, and with its own links alone.
func TestNothingElseGoes(t *testing.T) {
	for n := 1; n <= 6; n++ {
		l := leaves(n)
		root := leaf.Root(l)
		for m := 1; m <= n; m++ {
			elder := leaf.Root(l[:m])
			hashes := known(l)
			if !slices.Contains(hashes, elder) {
				hashes = append(hashes, elder)
			}
			own := linksOf(t, l, m)
			found := 0
			rows(hashes, len(own), func(links []api.Sum) {
				if !slices.Equal(links, own) {
					_, newer, _ := proof.Both(elder, m, n, links)
					isBool(t, called("Both with other links", m, n), newer == root, false)
					return
				}
				for _, a := range hashes {
					if proof.Goes(a, m, root, n, links) {
						found++
						isBool(t, called("Goes", m, n), a == elder, true)
					}
				}
			})
			isBool(t, called("Goes of one alone", m, n), found == 1, true)
		}
	}
}

// way are the texts by which x goes up with a path, in order; the last one's hash is what it comes to.
func way(x api.Sum, m, n int, p []api.Sum) []string {
	var texts []string
	for i, left := range path.Turns(m, n) {
		text := over(x, p[i])
		if left {
			text = over(p[i], x)
		}
		texts = append(texts, text)
		x = right(text)
	}
	return texts
}

// P12.3: what a path comes to is the hash of a text in which the one below it stands, at a place that m and n tell, and so on down to the leaf; so two unlike leaves, at one place and with one root, would have two unlike texts on their ways that have one hash.
func TestUnlikeLeavesWouldTellTwins(t *testing.T) {
	h := made(82)
	for _, n := range []int{2, 3, 4, 5, 6, 7, 8, 9, 30, 31, 32, 33, 1000, 0x123456789a, most - 1, most} {
		for _, m := range some(n) {
			long := path.Long(m, n)
			x, y, p, q := h[0], h[1], h[2:2+long], h[2+long:2+2*long]
			one, other := way(x, m, n, p), way(y, m, n, q)
			alike := way(y, m, n, p)
			isBool(t, called("unlike", m, n), one[0] != other[0] && one[0] != alike[0], true)
			isFold(t, x, m, n, p, right(one[long-1]))
			isFold(t, y, m, n, q, right(other[long-1]))
			isFold(t, y, m, n, p, right(alike[long-1]))
			root, _ := proof.Fold(x, m, n, p)
			isBool(t, called("Right of another leaf", m, n), proof.Right(root, y, m, n, p), false)
			isBool(t, called("Right of another leaf with its own path", m, n), proof.Right(root, y, m, n, q), false)
		}
	}
}
