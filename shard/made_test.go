package shard_test

import (
	"crypto/sha256"
	"encoding/binary"
	"fmt"
	"math"
	"math/rand/v2"
	"slices"
	"strconv"
	"strings"
	"testing"

	"scrinium/api"
	"scrinium/shard"
)

// The limits that the chapter names, and a record's.
const (
	mostTime    = 1 << 50
	mostCount   = 4000
	mostPayload = 2000
)

func isErr(t *testing.T, what string, got, want api.Errno) {
	t.Helper()
	if got != want {
		t.Errorf("%s: %v, want %v", what, got, want)
	}
}

// is fails if something else was told; isList does so of lists, of which one without elements may be nil.
func is[T comparable](t *testing.T, what string, got, want T) {
	t.Helper()
	if got != want {
		t.Errorf("%s: %s, want %s", what, short(got), short(want))
	}
}

func isList[T comparable](t *testing.T, what string, got, want []T) {
	t.Helper()
	if !slices.Equal(got, want) {
		t.Errorf("%s: %d, want %d; the first ones %s, want %s", what, len(got), len(want), short(got[:min(len(got), 3)]), short(want[:min(len(want), 3)]))
	}
}

// short is how something is told, cut off where it is long: payloads may be.
func short(x any) string {
	s := fmt.Sprint(x)
	return s[:min(len(s), 200)]
}

// number are a number's bytes, leafOf a record's leaf, above the hash above two, by hand and by the library of the language.
func number(n int) string {
	b := strings.TrimLeft(string(binary.BigEndian.AppendUint64(nil, uint64(n))), "\x00")
	return string([]byte{byte(len(b))}) + b
}

func leafOf(r api.Record) api.Sum {
	return hashOf("\x00" + number(r.Window) + number(r.Index) + number(r.Time) + number(len(r.Payload)) + r.Payload)
}

func above(a, b api.Sum) api.Sum { return hashOf("\x01" + string(a[:]) + string(b[:])) }

func hashOf(s string) api.Sum { return sha256.Sum256([]byte(s)) }

// split is the greatest power of two below n, which is above 1.
func split(n int) int {
	k := 1
	for 2*k < n {
		k *= 2
	}
	return k
}

// rootOf and pathOf are what RFC 6962 says of a tree with these leaves.
func rootOf(l []api.Sum) api.Sum {
	switch len(l) {
	case 0:
		return hashOf("")
	case 1:
		return l[0]
	}
	k := split(len(l))
	return above(rootOf(l[:k]), rootOf(l[k:]))
}

func pathOf(m int, l []api.Sum) []api.Sum {
	if len(l) == 1 {
		return nil
	}
	k := split(len(l))
	if m < k {
		return append(pathOf(m, l[:k]), rootOf(l[k:]))
	}
	return append(pathOf(m-k, l[k:]), rootOf(l[:k]))
}

// model is what the chapter says of a shard: all records that it ever had, and how many payloads are left.
type model struct {
	window, state, left int
	records             []api.Record
	stone               api.Stone
}

func (m *model) leaves() []api.Sum {
	var l []api.Sum
	for _, r := range m.records {
		l = append(l, leafOf(r))
	}
	return l
}

func (m *model) freeze() api.Freeze {
	return api.Freeze{Window: m.window, Count: len(m.records), Root: rootOf(m.leaves())}
}

func (m *model) add(time int, payload string) (int, api.Errno) {
	switch {
	case m.state != api.ShardOpen:
		return 0, api.ErrState
	case len(m.records) >= mostCount:
		return 0, api.ErrFull
	case time < 0 || time > mostTime:
		return 0, api.ErrArg
	case len(payload) > mostPayload:
		return 0, api.ErrSize
	}
	m.records = append(m.records, api.Record{Window: m.window, Index: len(m.records), Time: time, Payload: payload})
	m.left++
	return len(m.records) - 1, api.OK
}

func (m *model) close() (api.Freeze, api.Errno) {
	if m.state != api.ShardOpen || len(m.records) == 0 {
		return api.Freeze{}, api.ErrState
	}
	m.state = api.ShardFrozen
	return m.freeze(), api.OK
}

func (m *model) prune(z api.Stone) api.Errno {
	switch {
	case m.state != api.ShardFrozen:
		return api.ErrState
	case z.Freeze != m.freeze(), z.At < 0, z.At > mostTime:
		return api.ErrArg
	}
	m.state, m.stone = api.ShardPruned, z
	return api.OK
}

func (m *model) strip(n int) int {
	if m.state == api.ShardPruned && n > 0 {
		m.left -= min(n, m.left)
	}
	return m.left
}

func (m *model) copy() *model {
	c := *m
	c.records = slices.Clone(m.records)
	return &c
}

// stoneFor is a stone that may be, of what the model is, with a sum that no key made.
func (m *model) stoneFor(at int) api.Stone {
	return api.Stone{Freeze: m.freeze(), At: at, Mac: api.Sum{3, 1, 31: byte(at)}}
}

// both are a shard and what it ought to be, on which the same is done.
type both struct {
	s *shard.Shard
	m *model
}

func (b both) add(t *testing.T, what string, time int, payload string) {
	t.Helper()
	i, err := b.s.Add(time, payload)
	want, wanted := b.m.add(time, payload)
	is(t, what+": Add's place", i, want)
	isErr(t, what+": Add", err, wanted)
}

func (b both) close(t *testing.T, what string) {
	t.Helper()
	f, err := b.s.Close()
	want, wanted := b.m.close()
	is(t, what+": Close's freeze", f, want)
	isErr(t, what+": Close", err, wanted)
}

func (b both) prune(t *testing.T, what string, z api.Stone) {
	t.Helper()
	isErr(t, what+": Prune", b.s.Prune(z), b.m.prune(z))
}

func (b both) strip(t *testing.T, what string, n int) {
	t.Helper()
	is(t, what+": Strip "+strconv.Itoa(n), b.s.Strip(n), b.m.strip(n))
}

func (b both) copy(t *testing.T) both {
	t.Helper()
	c := both{b.s.Copy(), b.m.copy()}
	if c.s == nil || c.s == b.s {
		t.Fatal("Copy: not another one")
	}
	return c
}

// isRight fails if the shard doesn't tell what it ought to; for great ones only some places and paths are asked. It asks twice, as asking must change nothing.
func (b both) isRight(t *testing.T, what string) {
	t.Helper()
	for range 2 {
		b.isTold(t, what)
		b.hasRecords(t, what)
		b.hasPaths(t, what)
	}
}

func (b both) isTold(t *testing.T, what string) {
	t.Helper()
	s, m := b.s, b.m
	is(t, what+": Window", s.Window(), m.window)
	is(t, what+": State", s.State(), m.state)
	is(t, what+": Count", s.Count(), len(m.records))
	is(t, what+": Left", s.Left(), m.left)
	is(t, what+": Root", s.Root(), rootOf(m.leaves()))
	isList(t, what+": Leaves", s.Leaves(), m.leaves())
	isList(t, what+": Rows", s.Rows(), m.records[:m.left])
	f, ok := s.Freeze()
	want := m.freeze()
	if m.state == api.ShardOpen {
		want = api.Freeze{}
	}
	is(t, what+": Freeze", f, want)
	is(t, what+": Freeze, whether", ok, m.state != api.ShardOpen)
	z, ok := s.Stone()
	is(t, what+": Stone", z, m.stone)
	is(t, what+": Stone, whether", ok, m.state == api.ShardPruned)
}

// places are those of n, or some of them, if these are many, and such as there aren't.
func places(n int) []int {
	l := []int{math.MinInt, math.MinInt + 1, -mostTime, -2, -1, n, n + 1, 2*n + 1, mostCount, mostTime, math.MaxInt - 1, math.MaxInt}
	for i := range n {
		if n < 20 || i < 2 || i > n-3 || i == n/2 || i == 1024 {
			l = append(l, i)
		}
	}
	return l
}

func (b both) hasRecords(t *testing.T, what string) {
	t.Helper()
	for _, i := range places(len(b.m.records)) {
		r, err := b.s.Get(i)
		var want api.Record
		wanted := api.OK
		switch {
		case i < 0 || i >= len(b.m.records):
			wanted = api.ErrRange
		case b.m.state == api.ShardPruned:
			wanted = api.ErrPruned
		default:
			want = b.m.records[i]
		}
		is(t, what+": Get "+strconv.Itoa(i), r, want)
		isErr(t, what+": Get "+strconv.Itoa(i), err, wanted)
	}
}

func (b both) hasPaths(t *testing.T, what string) {
	t.Helper()
	l := b.m.leaves()
	for _, n := range places(len(l) + 1) {
		for _, i := range places(max(0, min(n, len(l)))) {
			p, err := b.s.Path(i, n)
			var want []api.Sum
			wanted := api.ErrRange
			if n >= 1 && n <= len(l) && i >= 0 && i < n {
				want, wanted = pathOf(i, l[:n]), api.OK
			}
			name := what + ": Path " + strconv.Itoa(i) + ", " + strconv.Itoa(n)
			isErr(t, name, err, wanted)
			isList(t, name, p, want)
		}
	}
}

// none are numbers that no window and no time is, among them such as come out as one where a part of their bits is left away.
func none() []int {
	return []int{-1, -2, -256, -mostTime, math.MinInt, math.MinInt + 1, mostTime + 1, mostTime + 2, 2 * mostTime, 1 << 56, 1 << 62, math.MaxInt - 1, math.MaxInt}
}

// times are windows and times that may be.
func times() []int { return []int{0, 1, 2, 255, 256, 300, 1 << 32, mostTime - 1, mostTime} }

// payloads are such as may be, and long ones such as may not.
func payloads() []string {
	return []string{"", "a", "bb", "\x00", "\xff\xfe", "a\nb", strings.Repeat("x", 256), strings.Repeat("y", mostPayload-1), strings.Repeat("\x00", mostPayload)}
}

func long() []string {
	return []string{strings.Repeat("y", mostPayload+1), strings.Repeat("\x00", mostPayload+2), strings.Repeat("z", 1<<16), strings.Repeat("z", 1<<20)}
}

// opened is one of a window with n records, of which no two are alike; closed and pruned are as much further.
func opened(t *testing.T, window, n int) both {
	t.Helper()
	b := both{shard.New(window), &model{window: window}}
	if b.s == nil {
		t.Fatalf("New(%d): nil", window)
	}
	for i := range n {
		b.add(t, "made", times()[i%9], strconv.Itoa(i)+strings.Repeat("-", i%7))
	}
	return b
}

func closed(t *testing.T, window, n int) both {
	t.Helper()
	b := opened(t, window, n)
	b.close(t, "made")
	return b
}

func pruned(t *testing.T, window, n, stripped int) both {
	t.Helper()
	b := closed(t, window, n)
	b.prune(t, "made", b.m.stoneFor(99))
	b.strip(t, "made", stripped)
	return b
}

// some are of all states, sizes and windows.
func some(t *testing.T) []both {
	t.Helper()
	l := []both{opened(t, 0, 0), opened(t, 3, 0), opened(t, mostTime, 0)}
	for i, n := range []int{1, 2, 3, 4, 5, 7, 8, 9, 17, 33} {
		w := times()[i%9]
		l = append(l, opened(t, w, n), closed(t, w, n))
		for _, m := range []int{0, 1, n / 2, n - 1, n} {
			l = append(l, pruned(t, w, n, m))
		}
	}
	return l
}

// great are few of all states that have as many records as there may be, or nearly so.
func great(t *testing.T) []both {
	t.Helper()
	return []both{opened(t, 1, mostCount-1), opened(t, 2, mostCount), closed(t, 3, mostCount), pruned(t, 4, mostCount, 0), pruned(t, 5, mostCount, 3000)}
}

// picker draws, the same in each run.
type picker struct{ *rand.Rand }

func newPicker() picker { return picker{rand.New(rand.NewPCG(17, 1))} }

// number is one around n, and now and then any.
func (p picker) number(n int) int {
	if p.IntN(10) == 0 {
		return int(p.Uint64()>>p.IntN(64)) * (1 - 2*p.IntN(2))
	}
	return p.IntN(n+3) - 1
}

// stone is one of the model's, most often, or with a part of it turned.
func (p picker) stone(m *model) api.Stone {
	z := m.stoneFor(p.IntN(200))
	switch p.IntN(9) {
	case 0:
		z.Freeze.Window = p.number(z.Freeze.Window)
	case 1:
		z.Freeze.Count = p.number(z.Freeze.Count)
	case 2:
		z.Freeze.Root[p.IntN(32)] ^= 1 << p.IntN(8)
	case 3:
		z.At = p.number(mostTime)
	case 4:
		z = api.Stone{}
	}
	return z
}
