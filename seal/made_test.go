package seal_test

import (
	"crypto/hmac"
	"crypto/sha256"
	"encoding/binary"
	"encoding/hex"
	"math"
	"math/rand/v2"
	"strings"
	"testing"

	"scrinium/api"
	"scrinium/seal"
)

// The limits that the chapter names.
const (
	mostTime  = 1 << 50
	mostCount = 4000
	mostSize  = 1 << 40
)

// isBytes, isErr and isTrue fail if something else was told; is does so of freezes, heads, stones and hashes.
func isBytes(t *testing.T, what, got, want string) {
	t.Helper()
	if got != want {
		t.Errorf("%s: % x, want % x", what, got, want)
	}
}

func isErr(t *testing.T, what string, got, want api.Errno) {
	t.Helper()
	if got != want {
		t.Errorf("%s: %v, want %v", what, got, want)
	}
}

func isTrue(t *testing.T, what string, got, want bool) {
	t.Helper()
	if got != want {
		t.Errorf("%s: %t, want %t", what, got, want)
	}
}

func is[T comparable](t *testing.T, what string, got, want T) {
	t.Helper()
	if got != want {
		t.Errorf("%s: %v, want %v", what, got, want)
	}
}

// fromHex makes bytes of hexadecimal digits, with blanks among them.
func fromHex(t *testing.T, s string) string {
	t.Helper()
	b, err := hex.DecodeString(strings.ReplaceAll(s, " ", ""))
	if err != nil {
		t.Fatal(err)
	}
	return string(b)
}

// leafOf is the hash of a leaf, macOf a sum by a key, by the library of the language.
func leafOf(data string) api.Sum { return sha256.Sum256([]byte("\x00" + data)) }

func macOf(key, says string) api.Sum {
	m := hmac.New(sha256.New, []byte(key))
	m.Write([]byte(says))
	return api.Sum(m.Sum(nil))
}

// number are a number's bytes, text those of a text, hash those of a hash, by hand.
func number(n int) string {
	b := strings.TrimLeft(string(binary.BigEndian.AppendUint64(nil, uint64(n))), "\x00")
	return string([]byte{byte(len(b))}) + b
}

func text(s string) string { return number(len(s)) + s }

func hash(s api.Sum) string { return "\x01\x20" + string(s[:]) }

// The bytes of a freeze, and what a head and a stone say, and their bytes, by hand, whether or not they may be.
func freezeBytes(f api.Freeze) string { return "F" + number(f.Window) + number(f.Count) + hash(f.Root) }

func headSays(h api.Head) string { return "H" + number(h.Size) + hash(h.Root) + number(h.Clock) }

func headBytes(h api.Head) string { return headSays(h) + hash(h.Mac) }

func stoneSays(s api.Stone) string { return "T" + text(freezeBytes(s.Freeze)) + number(s.At) }

func stoneBytes(s api.Stone) string { return stoneSays(s) + hash(s.Mac) }

// Which may be, in the chapter's words.
func freezeMay(f api.Freeze) bool {
	return 0 <= f.Window && f.Window <= mostTime && 1 <= f.Count && f.Count <= mostCount
}

func headMay(h api.Head) bool {
	return 0 <= h.Size && h.Size <= mostSize && 0 <= h.Clock && h.Clock <= mostTime
}

func stoneMay(s api.Stone) bool { return freezeMay(s.Freeze) && 0 <= s.At && s.At <= mostTime }

// byHand reads from the front of what is left; once something isn't there, all is over.
type byHand struct {
	rest string
	over bool
}

func (x *byHand) take(n int) string {
	if n > len(x.rest) {
		x.over = true
	}
	if x.over {
		return ""
	}
	s := x.rest[:n]
	x.rest = x.rest[n:]
	return s
}

func (x *byHand) mark(c string) { x.over = x.take(1) != c || x.over }

// number is one in its only form, from least to most.
func (x *byHand) number(least, most uint64) int {
	long := x.take(1)
	if long == "" || long[0] > 8 {
		x.over = true
		return 0
	}
	digits := x.take(int(long[0]))
	n := uint64(0)
	for _, c := range []byte(digits) {
		n = n<<8 | uint64(c)
	}
	if strings.HasPrefix(digits, "\x00") || n < least || n > most {
		x.over = true
		return 0
	}
	return int(n)
}

func (x *byHand) hash() (s api.Sum) {
	x.over = x.take(2) != "\x01\x20" || x.over
	copy(s[:], x.take(32))
	return s
}

func (x *byHand) freeze() api.Freeze {
	x.mark("F")
	w := x.number(0, mostTime)
	n := x.number(1, mostCount)
	return api.Freeze{Window: w, Count: n, Root: x.hash()}
}

func (x *byHand) head() api.Head {
	x.mark("H")
	n := x.number(0, mostSize)
	root := x.hash()
	at := x.number(0, mostTime)
	return api.Head{Size: n, Root: root, Clock: at, Mac: x.hash()}
}

func (x *byHand) stone() api.Stone {
	x.mark("T")
	in := &byHand{rest: x.take(x.number(0, 1000))}
	f := in.freeze()
	x.over = x.over || in.over || in.rest != ""
	at := x.number(0, mostTime)
	return api.Stone{Freeze: f, At: at, Mac: x.hash()}
}

// areRead fails if s is read as another one than by hand, or not refused, if it is none's.
func areRead(t *testing.T, s string) {
	t.Helper()
	f, err := seal.ReadFreeze(s)
	isReadAs(t, "ReadFreeze", s, f, err, (*byHand).freeze)
	h, err := seal.ReadHead(s)
	isReadAs(t, "ReadHead", s, h, err, (*byHand).head)
	z, err := seal.ReadStone(s)
	isReadAs(t, "ReadStone", s, z, err, (*byHand).stone)
}

func isReadAs[T comparable](t *testing.T, what, s string, got T, err api.Errno, by func(*byHand) T) {
	t.Helper()
	x := &byHand{rest: s}
	want, wanted := by(x), api.OK
	if x.over || x.rest != "" {
		var none T
		want, wanted = none, api.ErrForm
	}
	if got != want || err != wanted {
		t.Errorf("%s of % x: %v, %v, want %v, %v", what, s, got, err, want, wanted)
	}
}

// areNone fails if s is read as anything.
func areNone(t *testing.T, what, s string) {
	t.Helper()
	f, err := seal.ReadFreeze(s)
	isErr(t, what+": ReadFreeze", err, api.ErrForm)
	is(t, what+": ReadFreeze", f, api.Freeze{})
	h, err := seal.ReadHead(s)
	isErr(t, what+": ReadHead", err, api.ErrForm)
	is(t, what+": ReadHead", h, api.Head{})
	z, err := seal.ReadStone(s)
	isErr(t, what+": ReadStone", err, api.ErrForm)
	is(t, what+": ReadStone", z, api.Stone{})
}

// none are numbers that no window, count, size or time is, among them such as come out as one where a part of their bits is left away.
func none() []int {
	return []int{-1, -2, -256, -mostTime, math.MinInt, math.MinInt + 1, mostTime + 1, mostTime + 2, 2 * mostTime, 1 << 56, 1<<62 + 1, math.MaxInt - 1, math.MaxInt}
}

// times are windows and times that may be, at the edges of numbers with other lengths; sizes are those that a head may have; counts those of a freeze.
func times() []int { return append(sizes(), 1<<40+1, 1<<48-1, 1<<48, mostTime-1, mostTime) }

func sizes() []int {
	l := []int{0, 1, 2, 300, mostSize - 1, mostSize}
	for i := 8; i < 40; i += 8 {
		l = append(l, 1<<i-1, 1<<i)
	}
	return l
}

func counts() []int { return []int{1, 2, 127, 128, 255, 256, 257, 1000, mostCount - 1, mostCount} }

// hashes are some, such as look like bytes of numbers and texts among them.
func hashes() []api.Sum {
	l := []api.Sum{{}, {0x01, 0x20}, {31: 1}, {31: 0xff}, {0: 0x80}, sha256.Sum256(nil), leafOf("x")}
	var full api.Sum
	for i := range full {
		full[i] = 0xff
	}
	return append(l, full)
}

// keys are some, at the edges of what a block of the hash has, and none of them another one's padded form.
func keys() []string {
	return []string{
		"", "k", "key", "kez", "Key", "yek", "\x01", "\xff\xfe", strings.Repeat("a", 32), strings.Repeat("a", 63),
		strings.Repeat("a", 64), strings.Repeat("a", 65), strings.Repeat("b", 1000),
	}
}

// freezes, heads and stones are such as may be, at all edges.
func freezes() []api.Freeze {
	var l []api.Freeze
	for _, root := range hashes() {
		for _, w := range times() {
			l = append(l, api.Freeze{Window: w, Count: 1, Root: root}, api.Freeze{Window: w, Count: mostCount, Root: root})
		}
		for _, n := range counts() {
			l = append(l, api.Freeze{Window: 0, Count: n, Root: root}, api.Freeze{Window: mostTime, Count: n, Root: root})
		}
	}
	return l
}

func heads() []api.Head {
	var l []api.Head
	for i, root := range hashes() {
		m := hashes()[(i*3+1)%len(hashes())]
		for _, n := range sizes() {
			for _, at := range []int{0, 1, 256, mostTime} {
				l = append(l, api.Head{Size: n, Root: root, Clock: at, Mac: m})
			}
		}
		for _, at := range times() {
			l = append(l, api.Head{Size: 0, Root: root, Clock: at, Mac: m}, api.Head{Size: mostSize, Root: m, Clock: at, Mac: root})
		}
	}
	return l
}

func stones() []api.Stone {
	var l []api.Stone
	for i, f := range freezes() {
		m := hashes()[i%len(hashes())]
		l = append(l, api.Stone{Freeze: f, At: times()[i%len(times())], Mac: m}, api.Stone{Freeze: f, At: mostTime, Mac: m})
	}
	for _, at := range times() {
		l = append(l, api.Stone{Freeze: api.Freeze{Count: 1}, At: at})
	}
	return l
}

// noFreezes, noHeads and noStones are such as may not be.
func noFreezes() []api.Freeze {
	l := []api.Freeze{{}, {Window: 1}, {Count: mostCount + 1}, {Window: mostTime, Count: mostCount + 1}, {Count: 1 << 12}, {Count: 1<<16 + 1}, {Count: 1<<32 + 1}, {Count: mostTime}}
	for _, n := range none() {
		for _, root := range hashes()[:3] {
			l = append(l, api.Freeze{Window: n, Count: 1, Root: root}, api.Freeze{Window: 1, Count: n, Root: root}, api.Freeze{Window: n, Count: n, Root: root}, api.Freeze{Window: n, Root: root})
		}
	}
	return l
}

func noHeads() []api.Head {
	l := []api.Head{{Size: mostSize + 1}, {Size: mostSize + 1, Clock: mostTime}, {Size: mostSize * 2}, {Size: mostTime}, {Clock: mostTime + 1}}
	for _, n := range none() {
		for _, root := range hashes()[:3] {
			l = append(l, api.Head{Size: n, Root: root}, api.Head{Clock: n, Root: root}, api.Head{Size: n, Clock: n, Mac: root})
		}
	}
	return l
}

func noStones() []api.Stone {
	l := []api.Stone{{}, {At: 1}, {Freeze: api.Freeze{Count: 1}, At: mostTime + 1}}
	for _, f := range noFreezes() {
		l = append(l, api.Stone{Freeze: f}, api.Stone{Freeze: f, At: mostTime, Mac: leafOf("x")})
	}
	for _, n := range none() {
		l = append(l, api.Stone{Freeze: api.Freeze{Count: 1}, At: n}, api.Stone{Freeze: api.Freeze{Window: n, Count: 1}, At: n})
	}
	return l
}

// picker draws, the same in each run.
type picker struct{ *rand.Rand }

func newPicker() picker { return picker{rand.New(rand.NewPCG(16, 1))} }

// number is one up to most, and now and then any.
func (p picker) number(most int) int {
	if p.IntN(12) == 0 {
		return int(p.Uint64()>>p.IntN(64)) * (1 - 2*p.IntN(2))
	}
	return p.IntN(most>>p.IntN(40) + 1)
}

func (p picker) hash() (s api.Sum) {
	for i := range s {
		s[i] = byte(p.Uint32())
	}
	return s
}

func (p picker) freeze() api.Freeze {
	return api.Freeze{Window: p.number(mostTime), Count: p.number(mostCount), Root: p.hash()}
}

func (p picker) head() api.Head {
	return api.Head{Size: p.number(mostSize), Root: p.hash(), Clock: p.number(mostTime), Mac: p.hash()}
}

func (p picker) stone() api.Stone {
	f := p.freeze()
	if p.IntN(3) > 0 {
		f.Count = 1 + p.IntN(mostCount)
	}
	return api.Stone{Freeze: f, At: p.number(mostTime), Mac: p.hash()}
}
