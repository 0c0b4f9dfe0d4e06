package twin_test

import (
	"crypto/sha256"
	"encoding/hex"
	"math"
	"math/rand/v2"
	"slices"
	"strconv"
	"testing"

	"scrinium/api"
	"scrinium/path"
	"scrinium/proof"
	"scrinium/sha"
	"scrinium/twin"
)

// most is how many leaves a tree has at most of which proofs say something.
const most = 1 << 40

// right is the hash of s by the library of the language.
func right(s string) api.Sum { return sha256.Sum256([]byte(s)) }

// weak tells whether the tests run under the weak hash of weak_test.go, which has unlike texts with one hash.
func weak() bool { return sha.Of() == weakOf("") }

// strongOnly skips a test that asks for hashes as they are made by sha itself.
func strongOnly(t *testing.T) {
	t.Helper()
	if weak() {
		t.Skip("not under a weak hash")
	}
}

// over is the text of which the hash above two is made.
func over(a, b api.Sum) string { return "\x01" + string(a[:]) + string(b[:]) }

// above is the hash above two.
func above(a, b api.Sum) api.Sum { return sha.Of(over(a, b)) }

// made are n hashes that no tree has, no two alike.
func made(n int) []api.Sum {
	l := make([]api.Sum, n)
	for i := range l {
		l[i] = right("made " + strconv.Itoa(i))
	}
	return l
}

// looks are hashes of many looks: no bit, all bits, one byte, and what marks leaves and nodes.
func looks() []api.Sum {
	var all api.Sum
	for i := range all {
		all[i] = 0xff
	}
	return []api.Sum{{}, all, {0: 1}, {31: 1}, {0: 0x80}, {0: 1, 31: 2}, right(""), {}, {}, all, all}
}

// hashes are those that these texts tell in hexadecimal digits.
func hashes(hexes ...string) []api.Sum {
	var l []api.Sum
	for _, h := range hexes {
		s, err := hex.DecodeString(h)
		if err != nil || len(s) != 32 {
			panic(h + " is no hash")
		}
		l = append(l, api.Sum([]byte(s)))
	}
	return l
}

// unlike is x with another bit.
func unlike(x api.Sum, bit int) api.Sum {
	x[bit/8] ^= 1 << (bit % 8)
	return x
}

// firstPart is how many of n leaves are in the first part: the greatest power of two below n.
func firstPart(n int) int {
	k := 1
	for 2*k < n {
		k *= 2
	}
	return k
}

// worded are the texts on a path's way in the chapters' words, what they come to, and the hashes that are left. There must be as many as there are parts.
func worded(x api.Sum, m, n int, p []api.Sum) (texts []string, top api.Sum, rest []api.Sum) {
	if n == 1 {
		return nil, x, p
	}
	var text string
	if k := firstPart(n); m < k {
		texts, top, rest = worded(x, m, k, p)
		text = over(top, rest[0])
	} else {
		texts, top, rest = worded(x, m-k, n-k, p)
		text = over(rest[0], top)
	}
	return append(texts, text), sha.Of(text), rest[1:]
}

// wordedLinks are the texts on the way of links in the chapters' words, the newer root to which they come, and the links that are left. There must be as many as there are parts.
func wordedLinks(a api.Sum, m, n int, whole bool, links []api.Sum) (texts []string, newer api.Sum, rest []api.Sum) {
	k := firstPart(n)
	var text string
	switch {
	case m == n && whole:
		return nil, a, links
	case m == n:
		return nil, links[0], links[1:]
	case m <= k:
		texts, newer, rest = wordedLinks(a, m, k, whole, links)
		text = over(newer, rest[0])
	default:
		texts, newer, rest = wordedLinks(a, m-k, n-k, false, links)
		text = over(rest[0], newer)
	}
	return append(texts, text), sha.Of(text), rest[1:]
}

// firstTwins are the first unlike texts that stand at one place of both lists and have one hash.
func firstTwins(one, other []string) (api.Twins, bool) {
	for i := range one {
		if one[i] != other[i] && sha.Of(one[i]) == sha.Of(other[i]) {
			return api.Twins{A: one[i], B: other[i]}, true
		}
	}
	return api.Twins{}, false
}

// wantLeaves is what Leaves must tell, in the chapters' words.
func wantLeaves(m, n int, x, y api.Sum, a, b []api.Sum) (api.Twins, bool) {
	if long := path.Long(m, n); len(a) != long || len(b) != long {
		return api.Twins{}, false
	}
	one, root, _ := worded(x, m, n, a)
	other, also, _ := worded(y, m, n, b)
	if root != also {
		return api.Twins{}, false
	}
	return firstTwins(one, other)
}

// wantTrees is what Trees must tell, in the chapters' words.
func wantTrees(m, n int, x, y api.Sum, a, b []api.Sum) (api.Twins, bool) {
	if long := path.LinksLong(m, n); len(a) != long || len(b) != long {
		return api.Twins{}, false
	}
	one, newer, _ := wordedLinks(x, m, n, true, a)
	other, also, _ := wordedLinks(y, m, n, true, b)
	if newer != also {
		return api.Twins{}, false
	}
	return firstTwins(one, other)
}

// beyond are numbers that no row of n leaves has a place for.
func beyond(n int) []int {
	return []int{n + 1, n + 2, 2*n + 2, -1, -2, -n - 1, most, most + 1, -most, math.MaxInt, math.MaxInt - 1, math.MinInt, math.MinInt + 1}
}

// greatSizes are those at the edges of numbers with many bits, up to the greatest of which proofs say something.
func greatSizes() []int {
	l := []int{0x5555555555, 0xaaaaaaaaaa, 0x123456789a, most - 3, most - 2, most - 1, most}
	for i := 12; i < 40; i += 3 {
		p := 1 << i
		l = append(l, p-1, p, p+1, p+p/2, p+p/2+1, p+p/3)
	}
	return l
}

// some are places of n leaves: the first and the last ones, and those around powers of two.
func some(n int) []int {
	l := []int{0, 1, 2, 3, n / 3, n / 2, n - 3, n - 2, n - 1}
	for p := 4; p > 0 && p < n; p *= 2 {
		l = append(l, p-1, p, p+1, n-p)
	}
	slices.Sort(l)
	return slices.DeleteFunc(slices.Compact(l), func(m int) bool { return m < 0 || m >= n })
}

// picker draws hashes out of a few, the same ones in each run.
type picker struct{ *rand.Rand }

func newPicker() picker { return picker{rand.New(rand.NewPCG(13, 1))} }

// pick is one of four hashes, two of which a weak hash makes too.
func (p picker) pick() api.Sum {
	return [4]api.Sum{{}, {31: 1}, {0: 1}, right("made")}[p.IntN(4)]
}

// row are so many picks.
func (p picker) row(long int) []api.Sum {
	l := make([]api.Sum, long)
	for i := range l {
		l[i] = p.pick()
	}
	return l
}

// near is l, or l with some other picks in it, or another row.
func (p picker) near(l []api.Sum) []api.Sum {
	switch p.IntN(4) {
	case 0:
		return p.row(len(l))
	case 1:
		return slices.Clone(l)
	}
	l = slices.Clone(l)
	for range 2 {
		if len(l) > 0 {
			l[p.IntN(len(l))] = p.pick()
		}
	}
	return l
}

// called is how a call is told when it fails.
func called(what string, m, n int) string {
	return what + " of " + strconv.Itoa(m) + ", " + strconv.Itoa(n)
}

// isWay fails if the texts on a path's way are others than these.
func isWay(t *testing.T, m, n int, x api.Sum, p []api.Sum, want ...string) {
	t.Helper()
	if got := twin.Way(m, n, x, p); !slices.Equal(got, want) {
		t.Errorf("%s with %d: %x, want %x", called("Way", m, n), len(p), got, want)
	}
}

// isTold fails if a call answers other twins, or if what it answers isn't what Are says.
func isTold(t *testing.T, what string, got api.Twins, ok bool, want api.Twins, wanted bool) {
	t.Helper()
	if got != want || ok != wanted {
		t.Errorf("%s: %x, %t, want %x, %t", what, got, ok, want, wanted)
	}
	isBool(t, what+": Are", twin.Are(got), wanted)
}

// areLeaves fails if Leaves tells another thing than the chapters' words, either way round; told is whether it tells twins.
func areLeaves(t *testing.T, m, n int, x, y api.Sum, a, b []api.Sum) (told bool) {
	t.Helper()
	want, wanted := wantLeaves(m, n, x, y, a, b)
	got, ok := twin.Leaves(m, n, x, y, a, b)
	isTold(t, called("Leaves", m, n), got, ok, want, wanted)
	got, ok = twin.Leaves(m, n, y, x, b, a)
	isTold(t, called("Leaves the other way round", m, n), got, ok, api.Twins{A: want.B, B: want.A}, wanted)
	return ok
}

// areTrees fails if Trees tells another thing than the chapters' words, either way round; told is whether it tells twins.
func areTrees(t *testing.T, m, n int, x, y api.Sum, a, b []api.Sum) (told bool) {
	t.Helper()
	want, wanted := wantTrees(m, n, x, y, a, b)
	got, ok := twin.Trees(m, n, x, y, a, b)
	isTold(t, called("Trees", m, n), got, ok, want, wanted)
	got, ok = twin.Trees(m, n, y, x, b, a)
	isTold(t, called("Trees the other way round", m, n), got, ok, api.Twins{A: want.B, B: want.A}, wanted)
	return ok
}

// elderOf is the elder root that links come to, from a.
func elderOf(t *testing.T, a api.Sum, m, n int, links []api.Sum) api.Sum {
	t.Helper()
	elder, _, ok := proof.Both(a, m, n, links)
	if !ok {
		t.Fatalf("%s: none", called("Both", m, n))
	}
	return elder
}

func isBool(t *testing.T, what string, got, want bool) {
	t.Helper()
	if got != want {
		t.Errorf("%s: %t, want %t", what, got, want)
	}
}
