package super_test

import (
	"crypto/hmac"
	"crypto/sha256"
	"encoding/binary"
	"fmt"
	"math"
	"math/rand/v2"
	"slices"
	"strconv"
	"strings"
	"testing"

	"scrinium/api"
	"scrinium/super"
)

// The limits of what may be said of a shard, and of a clock.
const (
	mostTime  = 1 << 50
	mostCount = 4000
)

func isErr(t *testing.T, what string, got, want api.Errno) {
	t.Helper()
	if got != want {
		t.Errorf("%s: %v, want %v", what, got, want)
	}
}

// is fails if something else was told; isList does so of lists, of which one without elements may be nil.
func is[T comparable](t *testing.T, what string, got, want T) {
	t.Helper()
	if got != want {
		t.Errorf("%s: %s, want %s", what, short(got), short(want))
	}
}

func isList[T comparable](t *testing.T, what string, got, want []T) {
	t.Helper()
	if !slices.Equal(got, want) {
		t.Errorf("%s: %d, want %d; the first ones %s, want %s", what, len(got), len(want), short(got[:min(len(got), 3)]), short(want[:min(len(want), 3)]))
	}
}

// short is how something is told, cut off where it is long.
func short(x any) string {
	s := fmt.Sprint(x)
	return s[:min(len(s), 200)]
}

// name is a call and its numbers.
func name(what, call string, l ...int) string {
	for _, n := range l {
		call += " " + strconv.Itoa(n)
	}
	return what + ": " + call
}

// number are a number's bytes, leafOf the leaf of a freeze, macOf the sum of a text by a key, by hand and by the library of the language.
func number(n int) string {
	b := strings.TrimLeft(string(binary.BigEndian.AppendUint64(nil, uint64(n))), "\x00")
	return string([]byte{byte(len(b))}) + b
}

func hash(x api.Sum) string { return "\x01\x20" + string(x[:]) }

func hashOf(s string) api.Sum { return sha256.Sum256([]byte(s)) }

func leafOf(f api.Freeze) api.Sum {
	return hashOf("\x00F" + number(f.Window) + number(f.Count) + hash(f.Root))
}

func above(a, b api.Sum) api.Sum { return hashOf("\x01" + string(a[:]) + string(b[:])) }

func macOf(key, says string) api.Sum {
	h := hmac.New(sha256.New, []byte(key))
	h.Write([]byte(says))
	return api.Sum(h.Sum(nil))
}

// headOf is a head, signed; of a clock that may not be its sum has bytes 0.
func headOf(key string, size int, root api.Sum, clock int) api.Head {
	h := api.Head{Size: size, Root: root, Clock: clock}
	if clock >= 0 && clock <= mostTime {
		h.Mac = macOf(key, "H"+number(size)+hash(root)+number(clock))
	}
	return h
}

// split is the greatest power of two below n, which is above 1.
func split(n int) int {
	k := 1
	for 2*k < n {
		k *= 2
	}
	return k
}

// rootOf, pathOf and linksOf are what RFC 6962 says of a tree with these leaves.
func rootOf(l []api.Sum) api.Sum {
	switch len(l) {
	case 0:
		return hashOf("")
	case 1:
		return l[0]
	}
	k := split(len(l))
	return above(rootOf(l[:k]), rootOf(l[k:]))
}

func pathOf(m int, l []api.Sum) []api.Sum {
	if len(l) == 1 {
		return nil
	}
	k := split(len(l))
	if m < k {
		return append(pathOf(m, l[:k]), rootOf(l[k:]))
	}
	return append(pathOf(m-k, l[k:]), rootOf(l[:k]))
}

func linksOf(m int, l []api.Sum, whole bool) []api.Sum {
	switch {
	case m == len(l) && whole:
		return nil
	case m == len(l):
		return []api.Sum{rootOf(l)}
	}
	k := split(len(l))
	if m <= k {
		return append(linksOf(m, l[:k], whole), rootOf(l[k:]))
	}
	return append(linksOf(m-k, l[k:], false), rootOf(l[:k]))
}

// may tells whether a freeze may be.
func may(f api.Freeze) bool {
	return f.Window >= 0 && f.Window <= mostTime && f.Count >= 1 && f.Count <= mostCount
}

// model is what the chapter says of a log: all that were anchored.
type model struct{ all []api.Freeze }

func (m *model) anchor(f api.Freeze) (int, api.Errno) {
	n := len(m.all)
	switch {
	case !may(f):
		return 0, api.ErrArg
	case n > 0 && f.Window <= m.all[n-1].Window:
		return 0, api.ErrState
	}
	m.all = append(m.all, f)
	return n, api.OK
}

func (m *model) leaves() []api.Sum {
	var l []api.Sum
	for _, f := range m.all {
		l = append(l, leafOf(f))
	}
	return l
}

// both are a log and what it ought to be, on which the same is done.
type both struct {
	s *super.Super
	m *model
}

func (b both) anchor(t *testing.T, what string, f api.Freeze) {
	t.Helper()
	i, err := b.s.Anchor(f)
	want, wanted := b.m.anchor(f)
	is(t, what+": Anchor's place", i, want)
	isErr(t, what+": Anchor", err, wanted)
}

func (b both) copy(t *testing.T) both {
	t.Helper()
	c := both{b.s.Copy(), &model{slices.Clone(b.m.all)}}
	if c.s == nil || c.s == b.s {
		t.Fatal("Copy: not another one")
	}
	return c
}

// loaded is the same log, loaded from what it tells.
func (b both) loaded(t *testing.T, what string) both {
	t.Helper()
	s, err := super.Load(b.s.All())
	isErr(t, what+": Load", err, api.OK)
	if s == nil {
		t.Fatal(what + ": Load: nil")
	}
	return both{s, &model{slices.Clone(b.m.all)}}
}

// isRight fails if the log doesn't tell what it ought to; for great ones only some places are asked. It asks twice, as asking must change nothing.
func (b both) isRight(t *testing.T, what string) {
	t.Helper()
	for range 2 {
		b.isTold(t, what)
		b.isFound(t, what)
		b.hasProofs(t, what)
	}
}

func (b both) isTold(t *testing.T, what string) {
	t.Helper()
	n, root := len(b.m.all), rootOf(b.m.leaves())
	is(t, what+": Size", b.s.Size(), n)
	is(t, what+": Root", b.s.Root(), root)
	isList(t, what+": All", b.s.All(), b.m.all)
	for i, clock := range append(times(), none()...) {
		key := keys()[i%len(keys())]
		is(t, name(what, "Head", clock), b.s.Head(key, clock), headOf(key, n, root, clock))
	}
	for _, i := range places(n) {
		f, err := b.s.At(i)
		var want api.Freeze
		wanted := api.ErrRange
		if i >= 0 && i < n {
			want, wanted = b.m.all[i], api.OK
		}
		is(t, name(what, "At", i), f, want)
		isErr(t, name(what, "At", i), err, wanted)
	}
}

// isFound asks for the windows that are there, for those beside them, and for such as none is.
func (b both) isFound(t *testing.T, what string) {
	t.Helper()
	at := map[int]int{}
	asked := append(times(), none()...)
	for i, f := range b.m.all {
		at[f.Window] = i
		asked = append(asked, f.Window-1, f.Window, f.Window+1)
	}
	for _, w := range asked {
		i, ok := b.s.Find(w)
		want, wanted := at[w]
		is(t, name(what, "Find", w), i, want)
		is(t, name(what, "Find, whether", w), ok, wanted)
	}
}

func (b both) hasProofs(t *testing.T, what string) {
	t.Helper()
	l := b.m.leaves()
	for _, n := range places(len(l) + 1) {
		for _, i := range append(places(max(0, min(n, len(l)))), len(l)) {
			var path, links []api.Sum
			pathErr, linksErr := api.ErrRange, api.ErrRange
			there := n >= 1 && n <= len(l)
			if there && i >= 0 && i < n {
				path, pathErr = pathOf(i, l[:n]), api.OK
			}
			if there && i >= 1 && i <= n {
				links, linksErr = linksOf(i, l[:n], true), api.OK
			}
			p, err := b.s.Path(i, n)
			isList(t, name(what, "Path", i, n), p, path)
			isErr(t, name(what, "Path", i, n), err, pathErr)
			p, err = b.s.Links(i, n)
			isList(t, name(what, "Links", i, n), p, links)
			isErr(t, name(what, "Links", i, n), err, linksErr)
		}
	}
}

// places are those of n, or some of them, if these are many, and such as there aren't, among them such as come out as one where a part of their bits is left away.
func places(n int) []int {
	l := []int{math.MinInt, math.MinInt + 1, -1 << 32, -256, -2, -1, n, n + 1, 2*n + 1, 1 << 32, 1<<32 + 1, 1 << 40, 1<<40 + 1, mostTime, 1<<62 + 1, math.MaxInt - 1, math.MaxInt}
	for i := range n {
		if n < 20 || i < 2 || i > n-3 || i == n/2 || i == n/3 || i == 128 {
			l = append(l, i)
		}
	}
	return l
}

// none are numbers that no window and no time is.
func none() []int {
	return []int{-1, -2, -256, -mostTime, math.MinInt, math.MinInt + 1, mostTime + 1, mostTime + 2, 2 * mostTime, 1 << 56, 1 << 62, math.MaxInt - 1, math.MaxInt}
}

// times are windows and times that may be; counts are numbers of records that may be, and noCounts such as may not.
func times() []int { return []int{0, 1, 2, 255, 256, 300, 1 << 32, mostTime - 1, mostTime} }

func counts() []int { return []int{1, 2, 3, 255, 256, mostCount - 1, mostCount} }

func noCounts() []int {
	return []int{0, -1, -256, mostCount + 1, mostCount + 2, 2 * mostCount, 1<<32 + 1, mostTime, math.MinInt, math.MaxInt}
}

func keys() []string {
	return []string{"", "k", "key", "\x00", strings.Repeat("x", 64), strings.Repeat("x", 65), strings.Repeat("\xff", 1000)}
}

// freeze is one of a window; of no two windows they have the same root.
func freeze(window int) api.Freeze {
	return api.Freeze{Window: window, Count: 1 + window&1023, Root: hashOf(strconv.Itoa(window))}
}

// log is one of these windows, which rise.
func log(t *testing.T, windows ...int) both {
	t.Helper()
	b := both{super.New(), &model{}}
	if b.s == nil {
		t.Fatal("New: nil")
	}
	for _, w := range windows {
		b.anchor(t, "made", freeze(w))
	}
	return b
}

// long is one with n, of windows with gaps.
func long(t *testing.T, n int) both {
	t.Helper()
	var l []int
	for i := range n {
		l = append(l, 3*i+i%2)
	}
	return log(t, l...)
}

// some are of all small sizes, of windows with gaps and without, near 0 and as high as they may be.
func some(t *testing.T) []both {
	t.Helper()
	l := []both{log(t), log(t, 0), log(t, mostTime), log(t, 0, mostTime), log(t, 0, 1, 2, 3), log(t, mostTime-2, mostTime-1, mostTime), log(t, times()...)}
	for n := 1; n < 20; n++ {
		l = append(l, long(t, n))
	}
	return append(l, long(t, 31), long(t, 32), long(t, 33))
}

// picker draws, the same in each run.
type picker struct{ *rand.Rand }

func newPicker() picker { return picker{rand.New(rand.NewPCG(18, 1))} }

// number is one from n on, not far off, and now and then any.
func (p picker) number(n int) int {
	if p.IntN(10) == 0 {
		return int(p.Uint64()>>p.IntN(64)) * (1 - 2*p.IntN(2))
	}
	return n + p.IntN(5) - 1
}

// freeze is one that may come behind the window w, most often.
func (p picker) freeze(w int) api.Freeze {
	f := freeze(p.number(w + 1))
	if p.IntN(8) == 0 {
		f.Count = p.number(mostCount)
	}
	f.Root[p.IntN(32)] = byte(p.IntN(256))
	return f
}
