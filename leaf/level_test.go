package leaf_test

import (
	"slices"
	"strconv"
	"testing"

	"scrinium/api"
	"scrinium/leaf"
)

func isRows(t *testing.T, what string, got, want [][]api.Sum) {
	t.Helper()
	if len(got) != len(want) {
		t.Fatalf("%s: %d rows, want %d", what, len(got), len(want))
	}
	for i := range want {
		if !slices.Equal(got[i], want[i]) {
			t.Fatalf("%s: row %d is %x, want %x", what, i, got[i], want[i])
		}
	}
}

// parted are the rows of l by another way than the chapter's: in the row i stand the roots of the parts of 2^i leaves, one behind the other, the last part having what is left.
func parted(l []api.Sum) [][]api.Sum {
	rows := [][]api.Sum{l}
	for size := 2; size < 2*len(l); size *= 2 {
		var row []api.Sum
		for part := range slices.Chunk(l, size) {
			row = append(row, grown(part))
		}
		rows = append(rows, row)
	}
	return rows
}

// P9.3: small trees, row by row.
func TestLevelsOfFew(t *testing.T) {
	l := leaves(7)
	a, b, c, d, e, f, g := l[0], l[1], l[2], l[3], l[4], l[5], l[6]
	ab, cd, ef := above(a, b), above(c, d), above(e, f)
	isRows(t, "one", leaf.Levels(l[:1]), [][]api.Sum{{a}})
	isRows(t, "two", leaf.Levels(l[:2]), [][]api.Sum{{a, b}, {ab}})
	isRows(t, "three", leaf.Levels(l[:3]), [][]api.Sum{{a, b, c}, {ab, c}, {above(ab, c)}})
	isRows(t, "four", leaf.Levels(l[:4]), [][]api.Sum{{a, b, c, d}, {ab, cd}, {above(ab, cd)}})
	isRows(t, "five", leaf.Levels(l[:5]), [][]api.Sum{{a, b, c, d, e}, {ab, cd, e}, {above(ab, cd), e}, {above(above(ab, cd), e)}})
	isRows(t, "six", leaf.Levels(l[:6]), [][]api.Sum{{a, b, c, d, e, f}, {ab, cd, ef}, {above(ab, cd), ef}, {above(above(ab, cd), ef)}})
	isRows(t, "seven", leaf.Levels(l), [][]api.Sum{l, {ab, cd, ef, g}, {above(ab, cd), above(ef, g)}, {above(above(ab, cd), above(ef, g))}})
}

// P9.3, R1: of none, nil or empty, there is the one row l, which has at most one.
func TestLevelsOfNone(t *testing.T) {
	for _, l := range [][]api.Sum{nil, {}, leaves(3)[:0]} {
		isRows(t, "none", leaf.Levels(l), [][]api.Sum{{}})
	}
}

// P9.3: one has one row, whatever it is.
func TestLevelsOfOne(t *testing.T) {
	for _, x := range kinds() {
		isRows(t, "one", leaf.Levels([]api.Sum{x}), [][]api.Sum{{x}})
	}
}

// P9.3: each row has the pairs of the one ahead, and its last one, if it is alone, as it is.
func TestLevelsAreOfPairs(t *testing.T) {
	all := leaves(260)
	for n := range len(all) + 1 {
		rows := leaf.Levels(all[:n])
		want := [][]api.Sum{all[:n]}
		for row := all[:n]; len(row) > 1; {
			var next []api.Sum
			for pair := range slices.Chunk(row, 2) {
				if len(pair) == 2 {
					next = append(next, above(pair[0], pair[1]))
				} else {
					next = append(next, pair[0])
				}
			}
			want, row = append(want, next), next
		}
		isRows(t, strconv.Itoa(n)+" leaves", rows, want)
	}
}

// P9.3: in the row i stand the roots of parts of 2^i leaves.
func TestLevelsAreOfParts(t *testing.T) {
	all := leaves(5000)
	for n := 1; n < 130; n++ {
		isRows(t, strconv.Itoa(n)+" leaves", leaf.Levels(all[:n]), parted(all[:n]))
	}
	for _, n := range sizes() {
		isRows(t, strconv.Itoa(n)+" leaves", leaf.Levels(all[:n]), parted(all[:n]))
	}
	isRows(t, "hashes of all looks", leaf.Levels(kinds()), parted(kinds()))
	same := slices.Repeat([]api.Sum{all[0]}, 21)
	isRows(t, "like leaves", leaf.Levels(same), parted(same))
}

// isFollowing fails if what P9.4 says of l does not hold.
func isFollowing(t *testing.T, l []api.Sum) {
	t.Helper()
	rows := leaf.Levels(l)
	last := rows[len(rows)-1]
	if len(l) == 0 {
		isRows(t, "none", rows, [][]api.Sum{{}})
		return
	}
	if len(last) != 1 {
		t.Fatalf("Levels of %d: the last row has %d", len(l), len(last))
	}
	isSum(t, "Root of "+strconv.Itoa(len(l)), leaf.Root(l), last[0])
	if n := len(l); n > 1 && n&(n-1) == 0 {
		isSum(t, "Root of halves of "+strconv.Itoa(n), leaf.Root(l), leaf.Node(leaf.Root(l[:n/2]), leaf.Root(l[n/2:])))
	}
}

// P9.4: of as many as may be; R5: no row is too long.
func TestRootIsTheLastRow(t *testing.T) {
	all := leaves(1<<16 + 1)
	for n := range 260 {
		isFollowing(t, all[:n])
	}
	for _, n := range sizes() {
		isFollowing(t, all[:n])
	}
	for _, n := range []int{1<<16 - 1, 1 << 16, 1<<16 + 1} {
		isFollowing(t, all[:n])
	}
}

// P9.4: powers of two have halves, and only these split in them.
func TestRootOfHalves(t *testing.T) {
	all := leaves(1 << 15)
	for n := 2; n <= len(all); n *= 2 {
		l := all[:n]
		isSum(t, "Root of halves of "+strconv.Itoa(n), leaf.Root(l), leaf.Node(leaf.Root(l[:n/2]), leaf.Root(l[n/2:])))
	}
	l := all[:6]
	if leaf.Root(l) == leaf.Node(leaf.Root(l[:3]), leaf.Root(l[3:])) {
		t.Error("Root of six: of its halves")
	}
}

// R3, R4: what is handed in stays as it is, what is behind it too; asked again it tells the same.
func TestLevelsLeaveWhatTheyAreHanded(t *testing.T) {
	for n := range 40 {
		l := leaves(n + 5)
		rows := leaf.Levels(l[:n])
		if !slices.Equal(l, leaves(n+5)) {
			t.Fatalf("Levels of %d changed what they were handed", n)
		}
		isRows(t, "asked again", leaf.Levels(l[:n]), rows)
		isRows(t, "without room behind it", leaf.Levels(l[:n:n]), rows)
		clear(l)
		isRows(t, "the same leaves", leaf.Levels(leaves(n)), rows)
	}
}

// R3: rows that are told are their owner's: no row has a part of another, or of what was handed in.
func TestRowsAreTheirOwners(t *testing.T) {
	for n := range 40 {
		l := leaves(n)
		want := leaf.Levels(l)
		for i := range want {
			rows := leaf.Levels(l)
			row := rows[i]
			clear(row)
			clear(row[len(row):cap(row)])
			_ = append(row, api.Sum{1}, api.Sum{2})
			if !slices.Equal(l, leaves(n)) {
				t.Fatalf("Levels of %d: row %d is the one that was handed in", n, i)
			}
			rows[i] = want[i]
			isRows(t, "row "+strconv.Itoa(i)+" is cleared", rows, want)
			isRows(t, "row "+strconv.Itoa(i)+" is cleared, asked again", leaf.Levels(l), want)
		}
	}
}

// P9.2 to P9.4: whatever the leaves are, and as many as there may be.
func FuzzTrees(f *testing.F) {
	f.Add("")
	f.Add("a")
	f.Add("abcdefg")
	f.Add(text(33))
	f.Fuzz(func(t *testing.T, s string) {
		l := make([]api.Sum, len(s))
		for i := range l {
			l[i] = api.Sum{0: s[i], 31: s[len(s)-1-i]}
		}
		isSum(t, "Root", leaf.Root(l), grown(l))
		if len(l) > 0 {
			isRows(t, "Levels", leaf.Levels(l), parted(l))
		}
		isFollowing(t, l)
	})
}
