package front_test

import (
	"crypto/sha256"
	"encoding/binary"
	"encoding/hex"
	"slices"
	"strconv"
	"strings"
	"testing"

	"scrinium/api"
	"scrinium/front"
)

// most is how many leaves a front has at most.
const most = 1 << 40

// ofNothing is the hash of nothing.
const ofNothing = "e3b0c44298fc1c149afbf4c8996fb92427ae41e4649b934ca495991b7852b855"

// right is the hash of s by the library of the language.
func right(s string) api.Sum { return sha256.Sum256([]byte(s)) }

// above is the hash above two, by the library of the language.
func above(a, b api.Sum) api.Sum { return right("\x01" + string(a[:]) + string(b[:])) }

// leaves are n, no two alike.
func leaves(n int) []api.Sum {
	l := make([]api.Sum, n)
	for i := range l {
		l[i] = right("\x00" + strconv.Itoa(i))
	}
	return l
}

// looks are hashes of many looks: no bit, all bits, one byte, and what marks texts and lists.
func looks() []api.Sum {
	var all api.Sum
	for i := range all {
		all[i] = 0xff
	}
	return []api.Sum{{}, all, {0: 1}, {31: 1}, {0: 0x80}, {0: 1, 31: 2}, {0: 0x20}, {30: 1, 31: 0x20}, right(""), {}, {}, all, all}
}

// eight are the leaves with which logs are usually tried.
func eight() []api.Sum {
	var l []api.Sum
	for _, data := range []string{"", "\x00", "\x10", "\x20\x21", "\x30\x31", "\x40\x41\x42\x43", "\x50\x51\x52\x53\x54\x55\x56\x57", "\x60\x61\x62\x63\x64\x65\x66\x67\x68\x69\x6a\x6b\x6c\x6d\x6e\x6f"} {
		l = append(l, right("\x00"+data))
	}
	return l
}

// sizes are those around powers of two, and some between.
func sizes() []int {
	return []int{150, 255, 256, 257, 300, 511, 512, 513, 768, 1000, 1023, 1024, 1025, 3999, api.MaxCount, api.MaxCount + 1}
}

// greatSizes are those at the edges of numbers with many bits, up to the greatest that there may be.
func greatSizes() []int {
	l := []int{0x5555555555, 0xaaaaaaaaaa, 0x123456789a, 3 << 38, 1<<39 | 1}
	for i := 12; i <= 40; i++ {
		l = append(l, 1<<i-2, 1<<i-1, 1<<i)
	}
	return append(l, most-3)
}

// part is a tree as great as a power of two: how many leaves it has, and its root.
type part struct {
	size int
	root api.Sum
}

// tree is what a front is, by another way: whole parts, told with their sizes. Nothing is reckoned of a number's bits.
type tree []part

// add puts a leaf behind; two parts at the end that are as great go together.
func (t *tree) add(x api.Sum) {
	l := append(*t, part{1, x})
	for len(l) > 1 && l[len(l)-1].size == l[len(l)-2].size {
		a, b := l[len(l)-2], l[len(l)-1]
		l = append(l[:len(l)-2], part{2 * a.size, above(a.root, b.root)})
	}
	*t = l
}

// treeOf is the tree with these leaves.
func treeOf(l []api.Sum) *tree {
	t := new(tree)
	for _, x := range l {
		t.add(x)
	}
	return t
}

// treeOfSize is one with that many leaves, of which only the roots of the parts are made up.
func treeOfSize(n int) *tree {
	t := new(tree)
	for size := most; size > 0; size /= 2 {
		if n >= size {
			*t = append(*t, part{size, right("a part of " + strconv.Itoa(size))})
			n -= size
		}
	}
	return t
}

func (t *tree) size() int {
	n := 0
	for _, p := range *t {
		n += p.size
	}
	return n
}

func (t *tree) peaks() []api.Sum {
	var l []api.Sum
	for _, p := range *t {
		l = append(l, p.root)
	}
	return l
}

// root puts the last part below the one ahead of it, and so on.
func (t *tree) root() api.Sum {
	l := t.peaks()
	if len(l) == 0 {
		return right("")
	}
	for len(l) > 1 {
		l = append(l[:len(l)-2], above(l[len(l)-2], l[len(l)-1]))
	}
	return l[0]
}

// bytes are those of the tree, put together by hand.
func (t *tree) bytes() string { return formed(t.size(), t.peaks()) }

// formed are the bytes of a front with that many leaves and these peaks.
func formed(n int, peaks []api.Sum) string {
	s := number(n) + number(len(peaks))
	for _, p := range peaks {
		s += "\x01\x20" + string(p[:])
	}
	return s
}

// number is n as chapter 1 puts it.
func number(n int) string {
	s := strings.TrimLeft(string(binary.BigEndian.AppendUint64(nil, uint64(n))), "\x00")
	return string([]byte{byte(len(s))}) + s
}

// frontOf is the front to which these leaves were added.
func frontOf(l []api.Sum) *front.Front {
	f := front.New()
	for _, x := range l {
		f.Add(x)
	}
	return f
}

// read is the front of s, which must be one.
func read(t *testing.T, what, s string) *front.Front {
	t.Helper()
	f, err := front.Read(s)
	if f == nil || err != api.OK {
		t.Fatalf("%s: Read: %v, %d, want one", what, f, err)
	}
	return f
}

// isFront fails if f doesn't tell what the tree is. It asks twice, as asking must change nothing.
func isFront(t *testing.T, what string, f *front.Front, want *tree) {
	t.Helper()
	for range 2 {
		isInt(t, what+": Size", f.Size(), want.size())
		isSums(t, what+": Peaks", f.Peaks(), want.peaks())
		isSum(t, what+": Root", f.Root(), want.root())
		isBytes(t, what+": Bytes", f.Bytes(), want.bytes())
	}
}

func isInt(t *testing.T, what string, got, want int) {
	t.Helper()
	if got != want {
		t.Errorf("%s: %d, want %d", what, got, want)
	}
}

func isSum(t *testing.T, what string, got, want api.Sum) {
	t.Helper()
	if got != want {
		t.Errorf("%s: %x, want %x", what, got, want)
	}
}

func isSums(t *testing.T, what string, got, want []api.Sum) {
	t.Helper()
	if !slices.Equal(got, want) {
		t.Errorf("%s: %x, want %x", what, got, want)
	}
}

func isBytes(t *testing.T, what, got, want string) {
	t.Helper()
	if got != want {
		t.Errorf("%s: % x, want % x", what, got, want)
	}
}

func isHex(t *testing.T, what string, got api.Sum, want string) {
	t.Helper()
	if s := hex.EncodeToString(got[:]); s != want {
		t.Errorf("%s: %s, want %s", what, s, want)
	}
}
