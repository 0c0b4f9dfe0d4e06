package proof_test

import (
	"crypto/sha256"
	"encoding/hex"
	"math"
	"slices"
	"strconv"
	"testing"

	"scrinium/api"
	"scrinium/leaf"
	"scrinium/path"
	"scrinium/proof"
)

// most is how many leaves a tree has at most of which proofs say something.
const most = 1 << 40

// right is the hash of s by the library of the language.
func right(s string) api.Sum { return sha256.Sum256([]byte(s)) }

// over is the text of which the hash above two is made.
func over(a, b api.Sum) string { return "\x01" + string(a[:]) + string(b[:]) }

// above is the hash above two, by the library of the language.
func above(a, b api.Sum) api.Sum { return right(over(a, b)) }

// leaves are n, no two alike.
func leaves(n int) []api.Sum {
	l := make([]api.Sum, n)
	for i := range l {
		l[i] = right("\x00" + strconv.Itoa(i))
	}
	return l
}

// made are n hashes that no tree has, no two alike.
func made(n int) []api.Sum {
	l := make([]api.Sum, n)
	for i := range l {
		l[i] = right("made " + strconv.Itoa(i))
	}
	return l
}

// looks are hashes of many looks: no bit, all bits, one byte, and what marks leaves and nodes.
func looks() []api.Sum {
	var all api.Sum
	for i := range all {
		all[i] = 0xff
	}
	return []api.Sum{{}, all, {0: 1}, {31: 1}, {0: 0x80}, {0: 1, 31: 2}, right(""), {}, {}, all, all}
}

// eight are the leaves with which logs are usually tried.
func eight() []api.Sum {
	var l []api.Sum
	for _, data := range []string{"", "\x00", "\x10", "\x20\x21", "\x30\x31", "\x40\x41\x42\x43", "\x50\x51\x52\x53\x54\x55\x56\x57", "\x60\x61\x62\x63\x64\x65\x66\x67\x68\x69\x6a\x6b\x6c\x6d\x6e\x6f"} {
		l = append(l, right("\x00"+data))
	}
	return l
}

// hashes are those that these texts tell in hexadecimal digits.
func hashes(hexes ...string) []api.Sum {
	var l []api.Sum
	for _, h := range hexes {
		s, err := hex.DecodeString(h)
		if err != nil || len(s) != 32 {
			panic(h + " is no hash")
		}
		l = append(l, api.Sum([]byte(s)))
	}
	return l
}

// unlike is x with another bit.
func unlike(x api.Sum, bit int) api.Sum {
	x[bit/8] ^= 1 << (bit % 8)
	return x
}

// folded is what comes of x with a path, by the way of RFC 9162 (2.1.3.2), which goes by the places' bits.
func folded(x api.Sum, m, n int, p []api.Sum) (api.Sum, bool) {
	if m < 0 || m >= n || n > most {
		return api.Sum{}, false
	}
	f, s := m, n-1
	for _, c := range p {
		if s == 0 {
			return api.Sum{}, false
		}
		if f%2 == 1 || f == s {
			x = above(c, x)
			for f%2 == 0 && f != 0 {
				f, s = f/2, s/2
			}
		} else {
			x = above(x, c)
		}
		f, s = f/2, s/2
	}
	if s != 0 {
		return api.Sum{}, false
	}
	return x, true
}

// chained are both roots that links lead to, by the way of RFC 9162 (2.1.4.2), which goes by the places' bits.
func chained(a api.Sum, m, n int, links []api.Sum) (elder, newer api.Sum, ok bool) {
	if m < 1 || m > n || n > most || m == n && len(links) > 0 {
		return api.Sum{}, api.Sum{}, false
	}
	if m == n {
		return a, a, true
	}
	if m&(m-1) == 0 {
		links = append([]api.Sum{a}, links...)
	}
	if len(links) == 0 {
		return api.Sum{}, api.Sum{}, false
	}
	f, s := m-1, n-1
	for f%2 == 1 {
		f, s = f/2, s/2
	}
	elder, newer = links[0], links[0]
	for _, c := range links[1:] {
		if s == 0 {
			return api.Sum{}, api.Sum{}, false
		}
		if f%2 == 1 || f == s {
			elder, newer = above(c, elder), above(c, newer)
			for f%2 == 0 && f != 0 {
				f, s = f/2, s/2
			}
		} else {
			newer = above(newer, c)
		}
		f, s = f/2, s/2
	}
	if s != 0 {
		return api.Sum{}, api.Sum{}, false
	}
	return elder, newer, true
}

// worded are both roots in the chapter's words, from the last part out, and the links that are left. There must be as many as there are parts.
func worded(a api.Sum, m, n int, whole bool, links []api.Sum) (elder, newer api.Sum, rest []api.Sum) {
	k := leaf.Split(n)
	switch {
	case m == n && whole:
		return a, a, links
	case m == n:
		return links[0], links[0], links[1:]
	case m <= k:
		elder, newer, rest = worded(a, m, k, whole, links)
		return elder, above(newer, rest[0]), rest[1:]
	}
	elder, newer, rest = worded(a, m-k, n-k, false, links)
	return above(rest[0], elder), above(rest[0], newer), rest[1:]
}

// beyond are numbers that no row of n leaves has a place for.
func beyond(n int) []int {
	return []int{n + 1, n + 2, 2*n + 2, -1, -2, -n - 1, most, most + 1, -most, math.MaxInt, math.MaxInt - 1, math.MinInt, math.MinInt + 1}
}

// sizes are those around powers of two, and some between.
func sizes() []int {
	return []int{150, 255, 256, 257, 300, 511, 512, 513, 768, 1000, 1023, 1024, 1025, 3999, api.MaxCount, api.MaxCount + 1}
}

// greatSizes are those at the edges of numbers with many bits, up to the greatest of which proofs say something.
func greatSizes() []int {
	l := []int{0x5555555555, 0xaaaaaaaaaa, 0x123456789a, most - 3, most - 2, most - 1, most}
	for i := 12; i < 40; i += 3 {
		p := 1 << i
		l = append(l, p-1, p, p+1, p+p/2, p+p/2+1, p+p/3)
	}
	return l
}

// some are places of n leaves: the first and the last ones, and those around powers of two.
func some(n int) []int {
	l := []int{0, 1, 2, 3, n / 3, n / 2, n - 3, n - 2, n - 1}
	for p := 4; p > 0 && p < n; p *= 2 {
		l = append(l, p-1, p, p+1, n-p)
	}
	slices.Sort(l)
	return slices.DeleteFunc(slices.Compact(l), func(m int) bool { return m < 0 || m >= n })
}

// pathOf is the path of m in l, which must have one.
func pathOf(t *testing.T, l []api.Sum, m int) []api.Sum {
	t.Helper()
	p, ok := path.Path(l, m)
	if !ok {
		t.Fatalf("%s: none", called("Path", m, len(l)))
	}
	return p
}

// linksOf are the links from m on in l, which must have some.
func linksOf(t *testing.T, l []api.Sum, m int) []api.Sum {
	t.Helper()
	k, ok := path.Links(l, m)
	if !ok {
		t.Fatalf("%s: none", called("Links", m, len(l)))
	}
	return k
}

// called is how a call is told when it fails.
func called(what string, m, n int) string {
	return what + " of " + strconv.Itoa(m) + ", " + strconv.Itoa(n)
}

// isFold fails if a path doesn't come to that hash, or if Right says another thing of that hash, of one unlike it, or of no bit.
func isFold(t *testing.T, x api.Sum, m, n int, p []api.Sum, want api.Sum) {
	t.Helper()
	what := called("Fold", m, n)
	if got, ok := proof.Fold(x, m, n, p); !ok || got != want {
		t.Errorf("%s: %x, %t, want %x, true", what, got, ok, want)
	}
	isBool(t, what+": Right", proof.Right(want, x, m, n, p), true)
	isBool(t, what+": Right of another root", proof.Right(unlike(want, (m+n)%256), x, m, n, p), false)
	isBool(t, what+": Right of no bit", proof.Right(api.Sum{}, x, m, n, p), want == api.Sum{})
}

// isNoFold fails if something comes of a path.
func isNoFold(t *testing.T, x api.Sum, m, n int, p []api.Sum) {
	t.Helper()
	what := called("Fold", m, n) + " with " + strconv.Itoa(len(p))
	if got, ok := proof.Fold(x, m, n, p); ok || got != (api.Sum{}) {
		t.Errorf("%s: %x, %t, want no bit, false", what, got, ok)
	}
	isBool(t, what+": Right", proof.Right(x, x, m, n, p), false)
	isBool(t, what+": Right of no bit", proof.Right(api.Sum{}, x, m, n, p), false)
}

// isBoth fails if links don't come to these two, or if Goes says another thing of these, of such as are unlike them, or of no bit.
func isBoth(t *testing.T, a api.Sum, m, n int, links []api.Sum, elder, newer api.Sum) {
	t.Helper()
	what := called("Both", m, n)
	if e, w, ok := proof.Both(a, m, n, links); !ok || e != elder || w != newer {
		t.Errorf("%s: %x, %x, %t, want %x, %x, true", what, e, w, ok, elder, newer)
	}
	bit := (m + n) % 256
	isBool(t, what+": Goes", proof.Goes(a, m, newer, n, links), a == elder)
	isBool(t, what+": Goes to another one", proof.Goes(a, m, unlike(newer, bit), n, links), false)
	isBool(t, what+": Goes to no bit", proof.Goes(a, m, api.Sum{}, n, links), a == elder && newer == api.Sum{})
}

// isNoBoth fails if something comes of links.
func isNoBoth(t *testing.T, a api.Sum, m, n int, links []api.Sum) {
	t.Helper()
	what := called("Both", m, n) + " with " + strconv.Itoa(len(links))
	if e, w, ok := proof.Both(a, m, n, links); ok || e != (api.Sum{}) || w != (api.Sum{}) {
		t.Errorf("%s: %x, %x, %t, want no bit, no bit, false", what, e, w, ok)
	}
	isBool(t, what+": Goes", proof.Goes(a, m, a, n, links), false)
	isBool(t, what+": Goes to no bit", proof.Goes(a, m, api.Sum{}, n, links), false)
	isBool(t, what+": Goes of no bit", proof.Goes(api.Sum{}, m, api.Sum{}, n, links), false)
}

func isBool(t *testing.T, what string, got, want bool) {
	t.Helper()
	if got != want {
		t.Errorf("%s: %t, want %t", what, got, want)
	}
}
