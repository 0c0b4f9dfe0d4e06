package leaf_test

import (
	"crypto/sha256"
	"strings"
	"testing"

	"scrinium/api"
	"scrinium/leaf"
	"scrinium/sha"
)

const (
	ofNothing = "e3b0c44298fc1c149afbf4c8996fb92427ae41e4649b934ca495991b7852b855"
	ofLeaf    = "6e340b9cffb37a989ca544e6bb780a2c78901d3fb33738768511a30617afa01d" // of a leaf without data
)

// right is the hash of s by the library of the language.
func right(s string) api.Sum { return sha256.Sum256([]byte(s)) }

func isSum(t *testing.T, what string, got, want api.Sum) {
	t.Helper()
	if got != want {
		t.Errorf("%s: %x, want %x", what, got, want)
	}
}

func isHexOf(t *testing.T, what string, got api.Sum, want string) {
	t.Helper()
	if s := sha.Hex(got); s != want {
		t.Errorf("%s: %s, want %s", what, s, want)
	}
}

// text has n bytes, of all values.
func text(n int) string {
	b := make([]byte, n)
	for i := range b {
		b[i] = byte(i*167 + i/64 + i>>8)
	}
	return string(b)
}

// kinds are hashes of many looks: no bit, all bits, one byte, one bit each, and what hashes look like.
func kinds() []api.Sum {
	var all api.Sum
	for i := range all {
		all[i] = 0xff
	}
	l := []api.Sum{{}, all, {0: 1}, {31: 1}, {0: 0x80}, {0: 1, 31: 2}, {0: 2, 31: 1}, leaf.Empty(), leaf.Leaf(""), leaf.Leaf("a"), leaf.Node(all, api.Sum{})}
	for i := range 256 {
		var s api.Sum
		s[i/8] = 1 << (i % 8)
		l = append(l, s)
	}
	return l
}

// P9.1: the chapter's examples, and hashes that were made elsewhere.
func TestExamplesOfHashes(t *testing.T) {
	isHexOf(t, "Empty", leaf.Empty(), ofNothing)
	isHexOf(t, "Leaf of nothing", leaf.Leaf(""), ofLeaf)
	isHexOf(t, "Leaf of a", leaf.Leaf("a"), "022a6979e6dab7aa5ae4c3e5e45f7e977112a7e63593820dbec1ec738a24f93c")
	isHexOf(t, "Node of a, b", leaf.Node(leaf.Leaf("a"), leaf.Leaf("b")), "b137985ff484fb600db93107c77b0365c80d78f5b429ded0fd97361d077999eb")
}

// P9.1: a byte 0 and the data, of all lengths of some blocks; what marks texts, at both ends of the data, is data too.
func TestLeafIsOfAByte0AndTheData(t *testing.T) {
	for n := range 330 {
		for _, s := range []string{text(n), strings.Repeat("\x00", n), strings.Repeat("\x01", n), "\x00" + text(n), "\x01" + text(n), text(n) + "\x00", text(n) + "\x80"} {
			isSum(t, "Leaf", leaf.Leaf(s), right("\x00"+s))
		}
	}
}

// P9.1: the bytes of data are not read as runes or lines.
func TestLeafOfAnyBytes(t *testing.T) {
	for x := range 256 {
		s := string([]byte{byte(x)})
		isSum(t, "Leaf of a byte", leaf.Leaf(s), right("\x00"+s))
		isSum(t, "Leaf of two bytes", leaf.Leaf("\xc3"+s), right("\x00\xc3"+s))
	}
	isSum(t, "Leaf of lines", leaf.Leaf("a\r\nb\n"), right("\x00a\r\nb\n"))
}

// P9.1, R5: no data is too long, also beyond the limits that other chapters' texts have.
func TestLeafOfLongData(t *testing.T) {
	for _, n := range []int{api.MaxPayload, api.MaxPayload + 1, 1<<16 - 1, 1 << 16, api.MaxText - 1, api.MaxText, api.MaxText + 1} {
		s := text(n)
		isSum(t, "Leaf", leaf.Leaf(s), right("\x00"+s))
	}
}

// P9.1: a byte 1, both hashes' bytes, in their order; Node is the hash of that.
func TestNodeIsOfItsPreimage(t *testing.T) {
	for _, a := range kinds() {
		for _, b := range kinds()[:20] {
			isNode(t, a, b)
			isNode(t, b, a)
		}
	}
}

func isNode(t *testing.T, a, b api.Sum) {
	t.Helper()
	want := "\x01" + string(a[:]) + string(b[:])
	if got := leaf.Preimage(a, b); got != want {
		t.Errorf("Preimage: % x, want % x", got, want)
	}
	isSum(t, "Node", leaf.Node(a, b), right(want))
	isSum(t, "the hash of Preimage", sha.Of(leaf.Preimage(a, b)), leaf.Node(a, b))
}

// P9.1: which one is on the left matters, and a node is no leaf of the same bytes.
func TestNodesAreApart(t *testing.T) {
	a, b := leaf.Leaf("a"), leaf.Leaf("b")
	if leaf.Node(a, b) == leaf.Node(b, a) {
		t.Error("Node: the same the other way round")
	}
	if leaf.Node(a, b) == leaf.Leaf(sha.Bytes(a)+sha.Bytes(b)) {
		t.Error("Node: a leaf's hash")
	}
	if leaf.Leaf("") == leaf.Empty() {
		t.Error("Leaf of nothing: Empty")
	}
}

// R3: what is told is its owner's, and what is handed in stays as it is.
func TestHashesAreTheirOwners(t *testing.T) {
	a, b := leaf.Leaf("a"), leaf.Leaf("b")
	x, y := a, b
	n := leaf.Node(x, y)
	e := leaf.Empty()
	if x != a || y != b {
		t.Error("Node changed what it was handed")
	}
	clear(n[:])
	clear(e[:])
	isNode(t, a, b)
	isHexOf(t, "Empty", leaf.Empty(), ofNothing)
}

// P9.1: whatever the bytes are.
func FuzzHashes(f *testing.F) {
	f.Add("", "")
	f.Add("a", "b")
	f.Add(text(64), text(65))
	f.Fuzz(func(t *testing.T, s, u string) {
		isSum(t, "Leaf", leaf.Leaf(s), right("\x00"+s))
		isNode(t, right(s), right(u))
		var a, b api.Sum
		copy(a[:], s)
		copy(b[:], u)
		isNode(t, a, b)
	})
}
