package record_test

import (
	"math"
	"strings"
	"testing"

	"scrinium/api"
	"scrinium/leaf"
	"scrinium/octet"
	"scrinium/record"
)

// written are a record's Bytes, which it must have.
func written(t *testing.T, r api.Record) string {
	t.Helper()
	s, err := record.Bytes(r)
	isErr(t, "Bytes", err, api.OK)
	return s
}

// P15.2: the chapter's example.
func TestExampleOfBytes(t *testing.T) {
	s := written(t, api.Record{Window: 1, Index: 0, Time: 300, Payload: "ab"})
	isBytes(t, "Bytes", s, fromHex(t, "01 01 00 02 01 2c 01 02 61 62"))
}

// P15.2: some, byte by byte.
func TestBytesOfSome(t *testing.T) {
	for _, c := range []struct {
		r    api.Record
		want string
	}{
		{api.Record{}, "00 00 00 00"},
		{api.Record{Window: 1}, "01 01 00 00 00"},
		{api.Record{Index: 1}, "00 01 01 00 00"},
		{api.Record{Time: 1}, "00 00 01 01 00"},
		{api.Record{Payload: "\x00"}, "00 00 00 01 01 00"},
		{api.Record{Window: 255, Index: 256, Time: 65536, Payload: "\xff"}, "01 ff 02 01 00 03 01 00 00 01 01 ff"},
		{api.Record{Window: 1 << 50, Index: 3999, Time: 1<<50 - 1}, "07 04 00 00 00 00 00 00 02 0f 9f 07 03 ff ff ff ff ff ff 00"},
		{api.Record{Window: 2, Index: 3, Time: 4, Payload: "five5"}, "01 02 01 03 01 04 01 05 66 69 76 65 35"},
	} {
		isBytes(t, "Bytes", written(t, c.r), fromHex(t, c.want))
	}
	y := strings.Repeat("y", 2000)
	isBytes(t, "Bytes of the longest", written(t, api.Record{Payload: y}), "\x00\x00\x00\x02\x07\xd0"+y)
}

// P15.2, P15.4: at all edges they are what chapter 1 makes, and are read again.
func TestBytesAtTheEdges(t *testing.T) {
	for _, r := range few() {
		s := written(t, r)
		isBytes(t, "Bytes", s, bytesOf(r))
		isBytes(t, "Bytes", s, octet.Put(uint64(r.Window))+octet.Put(uint64(r.Index))+octet.Put(uint64(r.Time))+octet.Text(r.Payload))
		q, err := record.Read(s)
		isErr(t, "Read", err, api.OK)
		isRecord(t, "Read", q, r)
	}
}

// P15.2: of those that may not be nothing is told, and what Check says.
func TestBytesOfNone(t *testing.T) {
	for r, want := range noRecords() {
		s, err := record.Bytes(r)
		isErr(t, "Bytes", err, want)
		isBytes(t, "Bytes of none", s, "")
	}
}

// P15.2, P15.4: by chance.
func TestBytesByChance(t *testing.T) {
	draw := newPicker()
	for range 20000 {
		r := draw.record()
		s, err := record.Bytes(r)
		isErr(t, "Bytes", err, mayBe(r))
		if err == api.OK {
			isBytes(t, "Bytes", s, bytesOf(r))
		}
		isRead(t, bytesOf(r))
	}
}

// P15.2: bytes that look like those of a record that may not be.
func TestReadOfThoseThatMayNot(t *testing.T) {
	for r := range noRecords() {
		isNone(t, "may not be", bytesOf(r))
	}
	for _, n := range []uint64{mostTime + 1, 1 << 51, 1<<63 - 1, 1 << 63, 1<<63 + 1, math.MaxUint64} {
		isNone(t, "a window", number(n)+"\x00\x00\x00")
		isNone(t, "a place", "\x00"+number(n)+"\x00\x00")
		isNone(t, "a time", "\x00\x00"+number(n)+"\x00")
		isNone(t, "a payload", "\x00\x00\x00"+number(n)+strings.Repeat("x", 3000))
	}
	isNone(t, "a place", "\x00\x02\x0f\xa0\x00\x00")
	isNone(t, "a window", "\x07\x04\x00\x00\x00\x00\x00\x01\x00\x00\x00")
	isNone(t, "a time", "\x00\x00\x07\x04\x00\x00\x00\x00\x00\x01\x00")
	isNone(t, "a payload", "\x00\x00\x00\x02\x07\xd1"+strings.Repeat("y", 2001))
}

// P15.2: bytes that are missing, that are too many, that stand ahead, or that put a number in another form.
func TestReadOfOtherForms(t *testing.T) {
	for _, r := range []api.Record{{}, {Window: 1, Time: 300, Payload: "ab"}, {Window: mostTime, Index: mostIndex, Time: mostTime, Payload: strings.Repeat("\x00", 300)}} {
		s := written(t, r)
		for i := range s {
			isNone(t, "cut off", s[:i])
		}
		for _, more := range []string{"\x00", "x", "\x00\x00", s} {
			isNone(t, "more behind", s+more)
		}
		isNone(t, "a byte ahead", "\x09"+s)
		rest := s
		for range 4 {
			// A byte 0 ahead of a number's own would be a second form of it.
			ahead := s[:len(s)-len(rest)]
			isNone(t, "a byte 0 ahead", ahead+string([]byte{rest[0] + 1, 0})+rest[1:])
			rest = rest[1+rest[0]:]
		}
	}
	isNone(t, "nothing", "")
	for x := range 256 {
		isNone(t, "a byte", string([]byte{byte(x)}))
	}
}

// P15.2, P1: however many bytes a payload says it has.
func TestReadOfGreatClaims(t *testing.T) {
	for _, claim := range []uint64{1, 2, 1999, 2000, 2001, 1 << 16, api.MaxText, 1 << 31, mostTime, 1<<63 - 1, 1 << 63, math.MaxUint64} {
		isNone(t, "so many bytes", "\x00\x00\x00"+number(claim))
		isNone(t, "so many bytes", "\x00\x00\x00"+number(claim)+strings.Repeat("a", int(min(claim, 5000))-1))
		isRead(t, "\x00\x00\x00"+number(claim)+strings.Repeat("a", int(min(claim, 5000))))
	}
}

// P15.2: each byte turned into others: what is left a record's is read as that one.
func TestReadOfTurnedBytes(t *testing.T) {
	for _, r := range few() {
		s := bytesOf(r)
		for at := range min(len(s), 24) {
			for _, turn := range []byte{1, 2, 4, 0x10, 0x80, 0xff, s[at]} {
				b := []byte(s)
				b[at] ^= turn
				isRead(t, string(b))
			}
		}
	}
}

// P15.2: all short bytes of those that matter.
func TestReadOfShortBytes(t *testing.T) {
	l := []string{""}
	for from := 0; len(l[from]) < 8; from++ {
		isRead(t, l[from])
		for _, c := range "\x00\x01\x02\x0f" {
			l = append(l, l[from]+string(c))
		}
	}
}

// P15.4: no two records that may be have the same bytes, also where they have the same parts in another order.
func TestNoTwoHaveTheSameBytes(t *testing.T) {
	had := map[string]api.Record{}
	isApart := func(r api.Record) {
		t.Helper()
		s := written(t, r)
		if q, ok := had[s]; ok && q != r {
			t.Errorf("Bytes: the same of %v and %v", r, q)
		}
		had[s] = r
	}
	for _, r := range few() {
		isApart(r)
	}
	for w := range 9 {
		for i := range 9 {
			for at := range 9 {
				for _, s := range []string{"", "\x00", "\x01", "\x01\x01", "\x00\x00", "a"} {
					isApart(api.Record{Window: w, Index: i, Time: at, Payload: s})
				}
			}
		}
	}
}

// P15.2: a leaf is that of the bytes.
func TestLeaf(t *testing.T) {
	if got := record.Leaf(api.Record{Window: 1, Time: 300, Payload: "ab"}); got != leafOf("\x01\x01\x00\x02\x01\x2c\x01\x02ab") {
		t.Errorf("Leaf: %x", got)
	}
	had := map[api.Sum]api.Record{}
	for _, r := range few() {
		x := record.Leaf(r)
		if x != leafOf(bytesOf(r)) || x != leaf.Leaf(written(t, r)) {
			t.Errorf("Leaf of %v: %x", r, x)
		}
		if q, ok := had[x]; ok && q != r {
			t.Errorf("Leaf: the same of %v and %v", r, q)
		}
		had[x] = r
	}
}

// P15.2: of one that may not be it is the leaf of nothing.
func TestLeafOfNone(t *testing.T) {
	for r := range noRecords() {
		if got := record.Leaf(r); got != leafOf("") {
			t.Errorf("Leaf of %d, %d, %d, %d bytes: %x", r.Window, r.Index, r.Time, len(r.Payload), got)
		}
	}
}

// R4: asked again, the same is told.
func TestBytesAgain(t *testing.T) {
	for _, r := range few() {
		s := written(t, r)
		isBytes(t, "Bytes, again", written(t, r), s)
		q, _ := record.Read(s)
		again, _ := record.Read(s)
		isRecord(t, "Read, again", again, q)
	}
}

// P15.2, P15.4, P1: whatever the bytes are.
func FuzzRead(f *testing.F) {
	for _, r := range few()[:40] {
		f.Add(bytesOf(r))
	}
	f.Add("\x07\x04\x00\x00\x00\x00\x00\x01\x00\x00\x00")
	f.Add("\x00\x02\x0f\xa0\x00\x00")
	f.Fuzz(func(t *testing.T, s string) {
		isRead(t, s)
		if r, err := record.Read(s); err == api.OK {
			isBytes(t, "Bytes of Read", written(t, r), s)
		}
	})
}

// P15.1, P15.2, P15.4, P1: whatever a record has.
func FuzzBytes(f *testing.F) {
	f.Add(1, 0, 300, "ab")
	f.Add(mostTime, mostIndex, mostTime, strings.Repeat("y", mostPayload))
	f.Add(-1, mostCount, math.MinInt, "")
	f.Fuzz(func(t *testing.T, w, i, at int, payload string) {
		for _, r := range []api.Record{
			{Window: w, Index: i, Time: at, Payload: payload},
			{Window: int(uint(w) % (mostTime + 1)), Index: int(uint(i) % mostCount), Time: int(uint(at) % (mostTime + 1)), Payload: payload},
		} {
			isErr(t, "Check", record.Check(r), mayBe(r))
			s, err := record.Bytes(r)
			isErr(t, "Bytes", err, mayBe(r))
			if err == api.OK {
				isBytes(t, "Bytes", s, bytesOf(r))
			} else {
				isBytes(t, "Bytes of none", s, "")
			}
			isRead(t, bytesOf(r))
			isBytes(t, "Row", record.Row([]api.Record{r}), rowOf([]api.Record{r}))
			isInt(t, "Size", record.Size(r), len(rowOf([]api.Record{r})))
			areRead(t, r.Window, rowOf([]api.Record{r}))
		}
	})
}
