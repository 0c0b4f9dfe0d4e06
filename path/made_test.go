package path_test

import (
	"crypto/sha256"
	"encoding/hex"
	"math"
	"slices"
	"strconv"
	"testing"

	"scrinium/api"
)

// right is the hash of s by the library of the language.
func right(s string) api.Sum { return sha256.Sum256([]byte(s)) }

// above is the hash above two, by the library of the language.
func above(a, b api.Sum) api.Sum { return right("\x01" + string(a[:]) + string(b[:])) }

// leaves are n, no two alike.
func leaves(n int) []api.Sum {
	l := make([]api.Sum, n)
	for i := range l {
		l[i] = right("\x00" + strconv.Itoa(i))
	}
	return l
}

// grown is the root of l, leaf by leaf: whole parts of one size are put together; at the end what is left, from the last one on.
func grown(l []api.Sum) api.Sum {
	var peaks []api.Sum
	for i, x := range l {
		for size := i + 1; size%2 == 0; size /= 2 {
			x = above(peaks[len(peaks)-1], x)
			peaks = peaks[:len(peaks)-1]
		}
		peaks = append(peaks, x)
	}
	if len(peaks) == 0 {
		return right("")
	}
	root := peaks[len(peaks)-1]
	for _, p := range slices.Backward(peaks[:len(peaks)-1]) {
		root = above(p, root)
	}
	return root
}

// eight are the leaves with which logs are usually tried.
func eight() []api.Sum {
	var l []api.Sum
	for _, data := range []string{"", "\x00", "\x10", "\x20\x21", "\x30\x31", "\x40\x41\x42\x43", "\x50\x51\x52\x53\x54\x55\x56\x57", "\x60\x61\x62\x63\x64\x65\x66\x67\x68\x69\x6a\x6b\x6c\x6d\x6e\x6f"} {
		l = append(l, right("\x00"+data))
	}
	return l
}

// climb goes from place m of n up to the root, row by row as leaf.Levels has them, and tells of each row above which two are put together: the row, the place beside, and whether that stands on the left. It goes by the places' bits, and splits nothing.
func climb(m, n int, each func(row, beside int, left bool)) {
	last := n - 1
	for row := 0; last > 0; row++ {
		if m%2 == 1 {
			each(row, m-1, true)
		} else if m < last {
			each(row, m+1, false)
		}
		m, last = m/2, last/2
	}
}

// climbed is the path of m by climb, in the tree that has these rows.
func climbed(rows [][]api.Sum, m int) []api.Sum {
	var path []api.Sum
	climb(m, len(rows[0]), func(row, beside int, _ bool) { path = append(path, rows[row][beside]) })
	return path
}

// climbLinks goes up from the greatest whole part at the end of the first m of n: up to where that part is all that was known, or else from its own root on. From all on there is nothing.
func climbLinks(m, n int, each func(row, place int, left bool)) {
	if m == n {
		return
	}
	at, last, row := m-1, n-1, 0
	for at%2 == 1 {
		at, last, row = at/2, last/2, row+1
	}
	if at > 0 {
		each(row, at, false)
	}
	climb(at, last+1, func(r, beside int, left bool) { each(row+r, beside, left) })
}

// climbedLinks are the links from m on by climbLinks, in the tree that has these rows.
func climbedLinks(rows [][]api.Sum, m int) []api.Sum {
	var links []api.Sum
	climbLinks(m, len(rows[0]), func(row, place int, _ bool) { links = append(links, rows[row][place]) })
	return links
}

// folded is what comes of x with the hashes of a path, of which turns tell which stand on the left.
func folded(x api.Sum, path []api.Sum, turns []bool) api.Sum {
	for i, p := range path {
		if turns[i] {
			x = above(p, x)
		} else {
			x = above(x, p)
		}
	}
	return x
}

// chained are the roots of the first m and of all n that links lead to, from a, the root of the first m, by the way of RFC 9162 (2.1.4.2), which goes by the places' bits.
func chained(a api.Sum, m, n int, links []api.Sum) (elder, newer api.Sum, ok bool) {
	if m == n {
		return a, a, len(links) == 0
	}
	if m&(m-1) == 0 {
		links = append([]api.Sum{a}, links...)
	}
	if len(links) == 0 {
		return elder, newer, false
	}
	f, s := m-1, n-1
	for f%2 == 1 {
		f, s = f/2, s/2
	}
	elder, newer = links[0], links[0]
	for _, c := range links[1:] {
		if s == 0 {
			return elder, newer, false
		}
		if f%2 == 1 || f == s {
			elder, newer = above(c, elder), above(c, newer)
			for f%2 == 0 && f != 0 {
				f, s = f/2, s/2
			}
		} else {
			newer = above(newer, c)
		}
		f, s = f/2, s/2
	}
	return elder, newer, s == 0
}

// beyond are numbers that no row of n leaves has a place for.
func beyond(n int) []int {
	return []int{n + 1, n + 2, 2*n + 2, -1, -2, -n - 1, 1 << 40, 1<<40 + 1, -1 << 40, math.MaxInt, math.MaxInt - 1, math.MinInt, math.MinInt + 1}
}

// sizes are those around powers of two, and some between.
func sizes() []int {
	return []int{150, 255, 256, 257, 300, 511, 512, 513, 768, 1000, 1023, 1024, 1025, 3999, api.MaxCount, api.MaxCount + 1}
}

// some are places of n leaves: the first and the last ones, and those around powers of two.
func some(n int) []int {
	l := []int{0, 1, 2, 3, n / 3, n / 2, n - 3, n - 2, n - 1}
	for p := 4; p > 0 && p < n; p *= 2 {
		l = append(l, p-1, p, p+1, n-p)
	}
	slices.Sort(l)
	return slices.DeleteFunc(slices.Compact(l), func(m int) bool { return m < 0 || m >= n })
}

// called is how a call is told when it fails.
func called(what string, m, n int) string {
	return what + " of " + strconv.Itoa(m) + ", " + strconv.Itoa(n)
}

func isList(t *testing.T, what string, got []api.Sum, ok bool, want []api.Sum) {
	t.Helper()
	if !ok {
		t.Errorf("%s: false", what)
	}
	if !slices.Equal(got, want) {
		t.Errorf("%s: %x, want %x", what, got, want)
	}
}

func isHexes(t *testing.T, what string, got []api.Sum, ok bool, want ...string) {
	t.Helper()
	var hexes []string
	for _, x := range got {
		hexes = append(hexes, hex.EncodeToString(x[:]))
	}
	if !ok || !slices.Equal(hexes, want) {
		t.Errorf("%s: %v, %t, want %v, true", what, hexes, ok, want)
	}
}

func isNone(t *testing.T, what string, got []api.Sum, ok bool) {
	t.Helper()
	if ok || len(got) != 0 {
		t.Errorf("%s: %x, %t, want nothing, false", what, got, ok)
	}
}

func isInt(t *testing.T, what string, got, want int) {
	t.Helper()
	if got != want {
		t.Errorf("%s: %d, want %d", what, got, want)
	}
}
