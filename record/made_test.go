package record_test

import (
	"crypto/sha256"
	"encoding/binary"
	"encoding/hex"
	"math"
	"math/rand/v2"
	"slices"
	"strings"
	"testing"

	"scrinium/api"
	"scrinium/record"
)

// The limits that the chapter names.
const (
	mostTime    = 1 << 50
	mostIndex   = 3999
	mostPayload = 2000
	mostCount   = 4000
)

// isBytes, isInt, isErr and isRecord fail if something else was told.
func isBytes(t *testing.T, what, got, want string) {
	t.Helper()
	if got != want {
		t.Errorf("%s: % x, want % x", what, got, want)
	}
}

func isInt(t *testing.T, what string, got, want int) {
	t.Helper()
	if got != want {
		t.Errorf("%s: %d, want %d", what, got, want)
	}
}

func isErr(t *testing.T, what string, got, want api.Errno) {
	t.Helper()
	if got != want {
		t.Errorf("%s: %v, want %v", what, got, want)
	}
}

func isRecord(t *testing.T, what string, got, want api.Record) {
	t.Helper()
	if got != want {
		t.Errorf("%s: %v, want %v", what, got, want)
	}
}

// areRecords fails if these are other records, or in another order.
func areRecords(t *testing.T, what string, got, want []api.Record) {
	t.Helper()
	if !slices.Equal(got, want) {
		t.Errorf("%s: %d records, want %d; the first ones %v, want %v", what, len(got), len(want), got[:min(len(got), 3)], want[:min(len(want), 3)])
	}
}

// fromHex makes bytes of hexadecimal digits, with blanks among them.
func fromHex(t *testing.T, s string) string {
	t.Helper()
	b, err := hex.DecodeString(strings.ReplaceAll(s, " ", ""))
	if err != nil {
		t.Fatal(err)
	}
	return string(b)
}

// leafOf is the hash of a leaf by the library of the language.
func leafOf(data string) api.Sum { return sha256.Sum256([]byte("\x00" + data)) }

// number are a number's bytes, by hand.
func number(n uint64) string {
	b := strings.TrimLeft(string(binary.BigEndian.AppendUint64(nil, n)), "\x00")
	return string([]byte{byte(len(b))}) + b
}

// text are a text's bytes, by hand.
func text(s string) string { return number(uint64(len(s))) + s }

// bytesOf are a record's bytes, by hand, whether or not it may be.
func bytesOf(r api.Record) string {
	return number(uint64(r.Window)) + number(uint64(r.Index)) + number(uint64(r.Time)) + text(r.Payload)
}

// rowOf are the bytes of some in a row, by hand, whether or not they may be.
func rowOf(l []api.Record) string {
	s := ""
	for _, r := range l {
		s += number(uint64(r.Time)) + text(r.Payload)
	}
	return s
}

// cutNumber is the number that s begins with, in its one form, if it is not above most, and what stands behind it.
func cutNumber(s string, most uint64) (n uint64, rest string, ok bool) {
	if s == "" || s[0] > 8 || len(s) <= int(s[0]) {
		return 0, "", false
	}
	digits := s[1 : 1+s[0]]
	for _, c := range []byte(digits) {
		n = n<<8 | uint64(c)
	}
	return n, s[1+len(digits):], !strings.HasPrefix(digits, "\x00") && n <= most
}

// cutText is the text that s begins with, if it isn't too long for a payload, and what stands behind it.
func cutText(s string) (payload, rest string, ok bool) {
	n, s, ok := cutNumber(s, mostPayload)
	if !ok || n > uint64(len(s)) {
		return "", "", false
	}
	return s[:n], s[n:], true
}

// readByHand is the record whose bytes s is.
func readByHand(s string) (api.Record, bool) {
	w, s, ok := cutNumber(s, mostTime)
	if !ok {
		return api.Record{}, false
	}
	i, s, ok := cutNumber(s, mostIndex)
	if !ok {
		return api.Record{}, false
	}
	at, s, ok := cutNumber(s, mostTime)
	if !ok {
		return api.Record{}, false
	}
	payload, s, ok := cutText(s)
	if !ok || s != "" {
		return api.Record{}, false
	}
	return api.Record{Window: int(w), Index: int(i), Time: int(at), Payload: payload}, true
}

// rowsByHand are the records of a window whose row s is.
func rowsByHand(window int, s string) ([]api.Record, bool) {
	var l []api.Record
	for s != "" {
		at, rest, ok := cutNumber(s, mostTime)
		if !ok {
			return nil, false
		}
		payload, rest, ok := cutText(rest)
		if !ok || window < 0 || window > mostTime || len(l) == mostCount {
			return nil, false
		}
		l = append(l, api.Record{Window: window, Index: len(l), Time: int(at), Payload: payload})
		s = rest
	}
	return l, true
}

// isRead fails if s is not read as the record whose bytes it is, or not refused, if it is none's.
func isRead(t *testing.T, s string) {
	t.Helper()
	r, err := record.Read(s)
	want, ok := readByHand(s)
	wanted := api.OK
	if !ok {
		want, wanted = api.Record{}, api.ErrForm
	}
	if r != want || err != wanted {
		t.Errorf("Read of % x: %v, %v, want %v, %v", s, r, err, want, wanted)
	}
}

// isNone fails if s is read as a record.
func isNone(t *testing.T, what, s string) {
	t.Helper()
	r, err := record.Read(s)
	isErr(t, what+": Read", err, api.ErrForm)
	isRecord(t, what+": Read", r, api.Record{})
}

// areRead fails if s is not read as the records whose row it is, or not refused, if it is none's.
func areRead(t *testing.T, window int, s string) {
	t.Helper()
	l, err := record.Rows(window, s)
	want, ok := rowsByHand(window, s)
	wanted := api.OK
	if !ok {
		wanted = api.ErrForm
	}
	isErr(t, "Rows", err, wanted)
	areRecords(t, "Rows", l, want)
}

// areNone fails if s is read as a row.
func areNone(t *testing.T, what string, window int, s string) {
	t.Helper()
	l, err := record.Rows(window, s)
	isErr(t, what+": Rows", err, api.ErrForm)
	areRecords(t, what+": Rows", l, nil)
}

// none are numbers that no window, time or place is, among them such as come out as one where a part of their bits is left away.
func none() []int {
	return []int{-1, -2, -256, -mostTime, math.MinInt, math.MinInt + 1, mostTime + 1, mostTime + 2, 2 * mostTime, 1 << 56, 1 << 62, math.MaxInt - 1, math.MaxInt}
}

// times are windows and times that may be, at the edges of numbers with other lengths.
func times() []int {
	l := []int{0, 1, 2, 300, mostTime - 1, mostTime}
	for i := 8; i < 50; i += 8 {
		l = append(l, 1<<i-1, 1<<i)
	}
	return l
}

// indexes are places that may be.
func indexes() []int { return []int{0, 1, 2, 127, 128, 255, 256, 257, 1000, mostIndex - 1, mostIndex} }

// payloads are such as may be, of many looks and lengths.
func payloads() []string {
	return []string{
		"", "a", "b", "ab", "ba", "\x00", "\x00\x00", "\xff", "\xff\xfe", "\x01\x01", "\x08", "ä", "a row\nof lines\n",
		strings.Repeat("\x00", 255), strings.Repeat("x", 256), strings.Repeat("\x02", mostPayload-1), strings.Repeat("y", mostPayload),
	}
}

// long are payloads that may not be.
func long() []string {
	l := []string{strings.Repeat("y", mostPayload+1), strings.Repeat("\x00", mostPayload+1)}
	for _, n := range []int{mostPayload + 2, 2048, 4000, 1 << 16, 1<<16 + 1, 1 << 20} {
		l = append(l, strings.Repeat("z", n))
	}
	return l
}

// few are records that may be: at all edges, by themselves and together.
func few() []api.Record {
	var l []api.Record
	for _, w := range []int{0, 1, 255, 256, mostTime} {
		for _, i := range indexes() {
			for _, at := range []int{0, 1, 300, mostTime - 1, mostTime} {
				for _, s := range []string{"", "ab", "\x00", strings.Repeat("y", mostPayload)} {
					l = append(l, api.Record{Window: w, Index: i, Time: at, Payload: s})
				}
			}
		}
	}
	for _, n := range times() {
		l = append(l, api.Record{Window: n}, api.Record{Time: n}, api.Record{Window: n, Index: 7, Time: n, Payload: "c"})
	}
	for _, s := range payloads() {
		l = append(l, api.Record{Payload: s}, api.Record{Window: 3, Index: 300, Time: 31, Payload: s})
	}
	return l
}

// noRecords are some that may not be, each with what is told of it.
func noRecords() map[api.Record]api.Errno {
	m := map[api.Record]api.Errno{}
	for _, n := range none() {
		for _, s := range append(payloads(), long()...) {
			m[api.Record{Window: n, Payload: s}] = api.ErrArg
			m[api.Record{Time: n, Payload: s}] = api.ErrArg
			m[api.Record{Index: n, Payload: s}] = api.ErrArg
			m[api.Record{Window: n, Index: n, Time: n, Payload: s}] = api.ErrArg
		}
	}
	for _, n := range []int{mostCount, mostCount + 1, 1 << 12, 1 << 16, mostTime} {
		for _, s := range append(payloads(), long()...) {
			m[api.Record{Index: n, Payload: s}] = api.ErrArg
		}
	}
	for _, s := range long() {
		for _, n := range times() {
			m[api.Record{Window: n, Time: mostTime - n, Payload: s}] = api.ErrSize
		}
		for _, i := range indexes() {
			m[api.Record{Index: i, Payload: s}] = api.ErrSize
		}
	}
	return m
}

// inARow are n records of a window, at its places from the first one on.
func inARow(window, n int) []api.Record {
	var l []api.Record
	all, at := payloads()[:14], times()
	for i := range n {
		l = append(l, api.Record{Window: window, Index: i, Time: at[i%len(at)], Payload: all[i%len(all)]})
	}
	return l
}

// picker draws, the same in each run.
type picker struct{ *rand.Rand }

func newPicker() picker { return picker{rand.New(rand.NewPCG(15, 1))} }

// number is one with about as many bits as it is drawn, of either sign now and then.
func (p picker) number() int {
	n := int(p.Uint64() >> p.IntN(64))
	if p.IntN(8) == 0 {
		return -n
	}
	return n
}

// payload is a text that may be, or is a little too long, now and then.
func (p picker) payload() string {
	b := make([]byte, p.IntN(2+p.IntN(40)))
	if p.IntN(10) == 0 {
		b = make([]byte, mostPayload-2+p.IntN(5))
	}
	for i := range b {
		b[i] = byte(p.IntN(4) * p.IntN(86))
	}
	return string(b)
}

// record is any, or one that may be, most often.
func (p picker) record() api.Record {
	r := api.Record{Window: p.IntN(1<<p.IntN(51) + 1), Index: p.IntN(mostCount), Time: p.IntN(1<<p.IntN(51) + 1), Payload: p.payload()}
	switch p.IntN(12) {
	case 0:
		r.Window = p.number()
	case 1:
		r.Index = p.number()
	case 2:
		r.Time = p.number()
	}
	return r
}
